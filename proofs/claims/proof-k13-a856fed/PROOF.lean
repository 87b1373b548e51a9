import PyProof.Rows.All
import Wide.All
import OpenK.AllK
import Wide.FinOn
import Lean
import PyProof.EqAt
import PyProof.EqKinds
import PyProof.TupleCall
import PyProof.NeKinds
import PyProof.Rows.SortRuns
import KE.KSortTup
import PySem.SetOps
import PyProof.SetScanFacts
import PyProof.SetKind
import PyProof.TupleKey
import PyProof.Rows.SetFrom
import PyProof.DictIter
import PyProof.FactsAll.set
import PyProof.CollectWalk
import PyProof.SetRoads
import PyProof.Draws
import PyProof.EnumMake
import PyProof.EnumFor
import PyProof.StrLoop
import PyProof.StrCalls2
import PyProof.StrLawsTight
import PyProof.StrLawsJoin
import PyProof.DictWalks
import PyProof.WalkInts
import PyProof.Rows.CallKwBuiltin
import KE.KMinBuiltin
import PyProof.FitsReplace
import PyProof.StrLawsChain
import PyProof.SumWalkG
import PyProof.WalksMore
import PyProof.RulesTry
import PyProof.RulesAs
import PyProof.Rows.Catch
import PyProof.IsInstance
import PyProof.FString
import PyProof.ExcBaseAll.ValueError
import PyProof.MinMaxWalk
import PyProof.Rows.Range3
import PyProof.ConsumeWalk
import PyProof.ZipIter
import PyProof.Rows.ZipGen
import PyProof.ListMulRoad
import PySem.Challenge.RW_tilefloor_k13_texts
local macro_rules
  | `(tactic| omega) => `(tactic| lia)
set_option bootstrap.genMatcherCode false
set_option genSizeOf false
set_option Elab.async false
set_option linter.all false
set_option maxRecDepth 100000
namespace L2
open PySem PySem.Spec PyProof.Rows
noncomputable abbrev Key := Sum Int Str
noncomputable def keyIs : Key → Value → Bool
  | .inl k, v => Value.isInt k v
  | .inr x, v => Value.isStrOf x v
noncomputable def keyH (w : World) : Key → Int
  | .inl k => hashInt k
  | .inr x => hashStr w x
theorem keyIs_shape : ∀ {k : Key} {v : Value}, keyIs k v = true → (∃ i t, k = Sum.inl i ∧ v = Value.int i t) ∨ (∃ x t, k = Sum.inr x ∧ v = Value.str x t)
  | .inl i, v, h => by
    obtain ⟨t, e⟩ := Value.isInt_shape (k := i) (v := v) h
    exact .inl ⟨i, t, rfl, e⟩
  | .inr x, v, h => by
    obtain ⟨t, e⟩ := Value.isStrOf_shape (x := x) (v := v) h
    exact .inr ⟨x, t, rfl, e⟩
theorem key_ll (a b : Int) : decide ((Sum.inl a : Key) = Sum.inl b) = (a == b) := by
  by_cases e : a = b
  · subst e; simp
  · have h : ¬ (Sum.inl a : Key) = Sum.inl b := fun q => e (Sum.inl.inj q)
    rw [decide_eq_false h]
    exact (beq_eq_false_iff_ne.mpr e).symm
theorem key_rr (a b : Str) : decide ((Sum.inr a : Key) = Sum.inr b) = decide (a = b) := by
  by_cases e : a = b
  · subst e; simp
  · have h : ¬ (Sum.inr a : Key) = Sum.inr b := fun q => e (Sum.inr.inj q)
    rw [decide_eq_false h, decide_eq_false e]
theorem key_lr (a : Int) (b : Str) : decide ((Sum.inl a : Key) = Sum.inr b) = false := decide_eq_false (fun q => nomatch q)
theorem key_rl (a : Str) (b : Int) : decide ((Sum.inr a : Key) = Sum.inl b) = false := decide_eq_false (fun q => nomatch q)
noncomputable def mixKind (prog : Program) (w : World) : PySem.KeyKind prog w Key where
  is := keyIs
  hash := keyH w
  inj := fun v a b ha hb => by
    rcases keyIs_shape ha with ⟨i, t, rfl, rfl⟩ | ⟨x, t, rfl, rfl⟩
    · rcases keyIs_shape hb with ⟨j, u, rfl, e⟩ | ⟨y, u, rfl, e⟩
      · injection e with e1 _; rw [e1]
      · exact nomatch e
    · rcases keyIs_shape hb with ⟨j, u, rfl, e⟩ | ⟨y, u, rfl, e⟩
      · exact nomatch e
      · injection e with e1 _; rw [e1]
  byValue := fun k v h => by
    rcases keyIs_shape h with ⟨i, t, rfl, rfl⟩ | ⟨x, t, rfl, rfl⟩ <;> rfl
  pyHash := fun hv h => by
    rcases keyIs_shape hv with ⟨i, t, rfl, rfl⟩ | ⟨x, t, rfl, rfl⟩
    · exact wpAny_pyHash_int h
    · exact wpAny_pyHash_str h
  eqBool := fun hu hv h => by
    rcases keyIs_shape hu with ⟨i, t, rfl, rfl⟩ | ⟨x, t, rfl, rfl⟩
    · rcases keyIs_shape hv with ⟨j, u, rfl, rfl⟩ | ⟨y, u, rfl, rfl⟩
      · rw [key_ll] at h; exact wpAny_eqBool_int h
      · rw [key_lr] at h; exact SeqAt.EqAt.int_str i t y u _ _ _ _ h
    · rcases keyIs_shape hv with ⟨j, u, rfl, rfl⟩ | ⟨y, u, rfl, rfl⟩
      · rw [key_rl] at h; exact SeqAt.EqAt.str_int x t j u _ _ _ _ h
      · rw [key_rr] at h; exact wpAny_eqBool_str h
  «strs» := fun k x t v h => by
    rcases keyIs_shape h with ⟨i, u, rfl, e⟩ | ⟨y, u, rfl, e⟩
    · exact nomatch e
    · injection e with e1 _
      subst e1
      cases v <;> rfl
end L2
namespace L2
open PySem PySem.Spec PyProof.Rows
inductive V where
  | non | bl (b : Bool) | int (i : Int) | str (x : Str) | byt (b : Array UInt8) | flt (b : UInt64) | ref (a : Addr) | ty (n : String)
  deriving DecidableEq
noncomputable def RelV : V → Value → Prop
  | .non, u => u = Value.none
  | .bl b, u => u = Value.bool b
  | .int i, u => ∃ t, u = Value.int i t
  | .str x, u => ∃ t, u = Value.str x t
  | .byt b, u => ∃ t, u = Value.bytes b t
  | .flt b, u => ∃ t, u = Value.float b t
  | .ref a, u => u = Value.ref a
  | .ty n, u => u = Value.type n
noncomputable abbrev Vals : List V → List Value → Prop := Paired RelV
theorem Vals.length {xs : List V} {us : List Value} (r : Vals xs us) : xs.length = us.length := Paired.length r
theorem Vals.get : ∀ {xs : List V} {us : List Value} {i : Nat} {x : V}, Vals xs us → xs[i]? = some x → ∃ u, us[i]? = some u ∧ RelV x u
  | _, _, _, _, .nil, e => by simp at e
  | _, _, 0, _, .cons r _, e => by simp at e; subst e; exact ⟨_, rfl, r⟩
  | _, _, i + 1, x, .cons _ t, e => by
    obtain ⟨u, h1, h2⟩ := Vals.get (i := i) (x := x) t (by simpa using e)
    exact ⟨u, by simpa using h1, h2⟩
theorem Vals.set {x : V} {u : Value} (r : RelV x u) : ∀ {xs : List V} {us : List Value} (i : Nat), Vals xs us → Vals (xs.set i x) (us.set i u)
  | _, _, _, .nil => .nil
  | _, _, 0, .cons _ t => .cons r t
  | _, _, i + 1, .cons q t => .cons q (Vals.set r i t)
theorem Vals.append : ∀ {xs ys : List V} {us ws : List Value}, Vals xs us → Vals ys ws → Vals (xs ++ ys) (us ++ ws)
  | _, _, _, _, .nil, s => s
  | _, _, _, _, .cons r t, s => .cons r (Vals.append t s)
theorem Vals.take : ∀ {xs : List V} {us : List Value} (n : Nat), Vals xs us → Vals (xs.take n) (us.take n)
  | _, _, 0, _ => .nil
  | _, _, _ + 1, .nil => .nil
  | _, _, n + 1, .cons r t => .cons r (Vals.take n t)
theorem Vals.drop : ∀ {xs : List V} {us : List Value} (n : Nat), Vals xs us → Vals (xs.drop n) (us.drop n)
  | _, _, 0, r => r
  | _, _, _ + 1, .nil => .nil
  | _, _, n + 1, .cons _ t => Vals.drop n t
noncomputable def RelO : Option V → Option Value → Prop
  | some v, some u => RelV v u
  | none, none => True
  | _, _ => False
noncomputable def KV {κ : Type} : List (κ × V) → List (κ × Value) → Prop := Paired fun (p : κ × V) (q : κ × Value) => p.1 = q.1 ∧ RelV p.2 q.2
noncomputable def kV : Key → V
  | .inl i => .int i
  | .inr x => .str x
inductive HO where
  /-- a list -/
  | lst (xs : List V)
  /-- a tuple (never changes) -/
  | tup (xs : List V)
  /-- a dict whose keys are ints and texts; one whose keys are tuples of ints and texts (the empty one is both) -/
  | dK (kvs : List (Key × V)) | dT (kvs : List (List Key × V))
  /-- a set of ints: its members, its size -/
  | set (S : Int → Bool) (n : Nat)
  /-- an instance of the class at C, its dict at dx, its attributes -/
  | ins (C dx : Addr) (fs : List (Str × V))
  /-- the dict of the instance at x -/
  | own (x : Addr)
  /-- the dict of an exception -/
  | xd (fs : List (Str × V))
  /-- a bound method, f of x -/
  | met (f x : Addr)
  /-- a range object lo, lo + 1, .. below hi -/
  | rng (lo hi : Int)
  /-- a thing that is known to the object (the script; a dict while a loop walks it): read, never written while it is so -/
  | frz (o : Obj) (u : HO)
  /-- a code object's table -/
  | tbl (ps : Array Value)
  /-- any other thing, by what is true of its one object (a def of one's own: SetO a S n := HO.ext fun h => ..) -/
  | ext (φ : Heap → Prop)
noncomputable abbrev Hp := Addr → Option HO
noncomputable def upd (H : Hp) (a : Addr) (o : HO) : Hp := fun b => if b = a then some o else H b
theorem upd_same {H : Hp} {a : Addr} {o : HO} : upd H a o a = some o := by unfold upd; rw [if_pos rfl]
theorem upd_ne {H : Hp} {a b : Addr} {o : HO} (h : b ≠ a) : upd H a o b = H b := by unfold upd; rw [if_neg h]
theorem ne_of {H : Hp} {a b : Addr} {o u : HO} (h : H a = some o) (h' : H b = some u) (d : o ≠ u) : a ≠ b := by
  intro e; subst e; rw [h] at h'; exact d (Option.some.inj h')
theorem ne_of_none {H : Hp} {a b : Addr} {o : HO} (h : H a = some o) (h' : H b = none) : a ≠ b := by
  intro e; subst e; rw [h] at h'; cases h'
section
variable (P : Program) (w : World)
noncomputable def ObjOk (H : Hp) (h : Heap) (a : Addr) : HO → Prop
  | .lst xs => xs.length ≤ sizeLine ∧ ∃ (its : List Value) (n : Nat), Vals xs its ∧ h.get? a = some { cls := .type "list", data := .seq its.toArray n }
  | .tup xs => xs.length ≤ sizeLine ∧ ∃ its : List Value, Vals xs its ∧ IsTup h a its.toArray
  | .dK kvs => kvs.length ≤ sizeLine ∧ (a == sysModules) = false ∧ ∃ vs, KV kvs vs ∧ h.DictOf (mixKind P w) a vs
  | .dT kvs => kvs.length ≤ sizeLine ∧ (a == sysModules) = false ∧ ∃ xs : List (List Key × Addr × Value),
      Paired (fun (p : List Key × V) (q : List Key × Addr × Value) => p.1 = q.1 ∧ H q.2.1 = some (.tup (p.1.map kV)) ∧ RelV p.2 q.2.2) kvs xs ∧
      ∃ o es ep, h.get? a = some o ∧ o.ExactDict ∧ o.data = .dict es ep ∧ es.toList = xs.map (entryOfKey (tupleKind (mixKind P w))) ∧ (xs.map (·.1)).Nodup
  | .set S n => h.SetOf (intKind P w) a S n
  | .ins C dx fs => H dx = some (.own a) ∧ fs.length ≤ 1000 ∧ dx ≠ a ∧ h.get? a = some (PySem.W.instObj C dx) ∧
      ∃ mA, h.Ns1 dx mA ∧ (∀ f, RelO (fs.lookup f) (mA f)) ∧ PySem.Within mA (fs.map (·.1))
  | .own _ => ∃ o, h.get? a = some o
  | .xd fs => ∃ mA, h.Ns1 a mA ∧ ∀ f, RelO (fs.lookup f) (mA f)
  | .rng lo hi => ∃ t u v, h.get? a = some { cls := .type "range", data := .fields #[.int lo t, .int hi u, .int 1 v] }
  | .frz o u => h.get? a = some o ∧ ObjOk H h a u
  | .tbl ps => h.get? a = some { cls := .none, data := .fields ps }
  | .met f x => h.get? a = some (PySem.W.methodObj (.ref f) (.ref x))
  | .ext φ => φ h ∧ (∃ o, h.get? a = some o) ∧ ∀ h1 h2 : Heap, φ h1 → (∀ o, h1.get? a = some o → h2.get? a = some o) → φ h2
noncomputable def HOk (H : Hp) (h : Heap) : Prop := ∀ a o, H a = some o → ObjOk P w H h a o
end
section
variable {P : Program} {w : World} {H H' : Hp} {h h' : Heap} {a : Addr} {o : HO}
theorem ObjOk.lt (x : ObjOk P w H h a o) : a < h.objs.size := by
  cases o with
  | lst xs => obtain ⟨_, _, _, _, e⟩ := x; exact Heap.lt_size e
  | tup xs => obtain ⟨_, _, _, p⟩ := x; exact p.lt
  | dK kvs => obtain ⟨_, _, _, _, o, _, _, e, _⟩ := x; exact Heap.lt_size e
  | dT kvs => obtain ⟨_, _, _, _, o, _, _, e, _⟩ := x; exact Heap.lt_size e
  | set S n => obtain ⟨o, _, _, _, e, _⟩ := x; exact Heap.lt_size e
  | ins C dx fs => obtain ⟨_, _, _, e, _⟩ := x; exact Heap.lt_size e
  | own y => obtain ⟨_, e⟩ := x; exact Heap.lt_size e
  | xd fs => obtain ⟨_, ⟨_, _, _, e, _⟩, _⟩ := x; exact Heap.lt_size e
  | rng lo hi => obtain ⟨_, _, _, e⟩ := x; exact Heap.lt_size e
  | frz ob u => obtain ⟨e, _⟩ := x; exact Heap.lt_size e
  | tbl ps => exact Heap.lt_size (show h.get? a = some _ from x)
  | met f y => exact Heap.lt_size (show h.get? a = some _ from x)
  | ext φ => obtain ⟨_, ⟨_, e⟩, _⟩ := x; exact Heap.lt_size e
theorem Paired.mapP {α β : Type} {F G : α → β → Prop} : ∀ {l₁ : List α} {l₂ : List β}, Paired F l₁ l₂ → (∀ a b, F a b → G a b) → Paired G l₁ l₂
  | _, _, .nil, _ => .nil
  | _, _, .cons r t, f => .cons (f _ _ r) (Paired.mapP t f)
theorem ObjOk.stay (x : ObjOk P w H h a o) (k : ∀ b u, (b = a ∨ H b = some (.own a)) → h.get? b = some u → h'.get? b = some u)
    (ho : ∀ b, H b = some (.own a) → H' b = some (.own a)) (ht : ∀ b xs, H b = some (.tup xs) → H' b = some (.tup xs)) : ObjOk P w H' h' a o := by
  induction o with
  | lst xs => obtain ⟨z, its, n, r, e⟩ := x; exact ⟨z, its, n, r, k _ _ (.inl rfl) e⟩
  | tup xs => obtain ⟨z, its, r, ob, e, c⟩ := x; exact ⟨z, its, r, ob, k _ _ (.inl rfl) e, c⟩
  | dK kvs => obtain ⟨z, y, vs, r, ob, es, ep, e, c⟩ := x; exact ⟨z, y, vs, r, ob, es, ep, k _ _ (.inl rfl) e, c⟩
  | dT kvs =>
    obtain ⟨z, y, xs, r, ob, es, ep, e, c⟩ := x
    exact ⟨z, y, xs, Paired.mapP r fun p q z => ⟨z.1, ht _ _ z.2.1, z.2.2⟩, ob, es, ep, k _ _ (.inl rfl) e, c⟩
  | set S n => obtain ⟨ob, es, ep, t, e, c⟩ := x; exact ⟨ob, es, ep, t, k _ _ (.inl rfl) e, c⟩
  | ins C dx fs =>
    obtain ⟨d, z, ne, e, mA, ⟨od, es, ep, e2, c⟩, r⟩ := x
    exact ⟨ho _ d, z, ne, k _ _ (.inl rfl) e, mA, ⟨od, es, ep, k _ _ (.inr d) e2, c⟩, r⟩
  | own y => obtain ⟨ob, e⟩ := x; exact ⟨ob, k _ _ (.inl rfl) e⟩
  | xd fs => obtain ⟨mA, ⟨od, es, ep, e, c⟩, r⟩ := x; exact ⟨mA, ⟨od, es, ep, k _ _ (.inl rfl) e, c⟩, r⟩
  | rng lo hi => obtain ⟨t, u, v, e⟩ := x; exact ⟨t, u, v, k _ _ (.inl rfl) e⟩
  | frz ob u ih => obtain ⟨e, q⟩ := x; exact ⟨k _ _ (.inl rfl) e, ih q⟩
  | tbl ps =>
    have e : h.get? a = some { cls := .none, data := .fields ps } := x
    show h'.get? a = some { cls := .none, data := .fields ps }
    exact k a _ (.inl rfl) e
  | met f y =>
    have e : h.get? a = some (PySem.W.methodObj (.ref f) (.ref y)) := x
    show h'.get? a = some (PySem.W.methodObj (.ref f) (.ref y))
    exact k a _ (.inl rfl) e
  | ext φ => obtain ⟨p, ⟨o, e⟩, st⟩ := x; exact ⟨st _ _ p fun o q => k _ _ (.inl rfl) q, ⟨o, k _ _ (.inl rfl) e⟩, st⟩
theorem HOk.lt (x : HOk P w H h) (e : H a = some o) : a < h.objs.size := (x a o e).lt
theorem HOk.fresh (x : HOk P w H h) (e : h.objs.size ≤ a) : H a = none := by
  cases q : H a with
  | none => rfl
  | some u => exact absurd (Nat.lt_of_lt_of_le (x.lt q) e) (Nat.lt_irrefl _)
theorem HOk.kept (x : HOk P w H h) (k : ∀ b u, h.get? b = some u → h'.get? b = some u) : HOk P w H h' := fun a o e =>
  (x a o e).stay (fun b u _ q => k b u q) (fun _ q => q) fun _ _ q => q
theorem HOk.laid (x : HOk P w H h) (k : ∀ b u, h.get? b = some u → h'.get? b = some u) (hp : h.objs.size ≤ a) (new : ObjOk P w (upd H a o) h' a o) : HOk P w (upd H a o) h' := fun b u e => by
  have hn := x.fresh hp
  by_cases hb : b = a
  · subst hb; rw [upd_same] at e; cases e; exact new
  · rw [upd_ne hb] at e
    exact (x b u e).stay (fun c v _ q => k c v q) (fun c q => by rw [upd_ne (ne_of_none q hn)]; exact q) fun c xs q => by rw [upd_ne (ne_of_none q hn)]; exact q
end
noncomputable def Rd (H : Hp) (a : Addr) (u : HO) : Prop := H a = some u ∨ ∃ o, H a = some (.frz o u)
theorem Rd.of {H : Hp} {a : Addr} {u : HO} (h : H a = some u) : Rd H a u := .inl h
theorem Rd.ok {P : Program} {w : World} {H : Hp} {h : Heap} {a : Addr} {u : HO} (r : Rd H a u) (x : HOk P w H h) : ObjOk P w H h a u := by
  rcases r with r | ⟨o, r⟩
  · exact x a u r
  · obtain ⟨_, q⟩ := x a _ r
    exact q
noncomputable def Mut : Option HO → Prop
  | some (.lst _) => True
  | some (.dK _) => True
  | some (.dT _) => True
  | some (.set _ _) => True
  | some (.ins _ _ _) => True
  | some (.ext _) => True
  | _ => False
section
variable {P : Program} {w : World} {H : Hp} {h h' : Heap} {x e : Addr} {o' : HO}
theorem HOk.write (ok : HOk P w H h) (mu : Mut (H x)) (he : e = x ∨ H e = some (.own x)) (k : ∀ b u, b ≠ e → h.get? b = some u → h'.get? b = some u) (heo : ∃ u, h'.get? e = some u)
    (new : ObjOk P w (upd H x o') h' x o') : HOk P w (upd H x o') h' := fun b u q => by
  have nown : ∀ c y, H c = some (.own y) → c ≠ x := fun c y r z => by subst z; rw [r] at mu; exact mu
  have ntup : ∀ c xs, H c = some (.tup xs) → c ≠ x := fun c xs r z => by subst z; rw [r] at mu; exact mu
  by_cases hb : b = x
  · subst hb; rw [upd_same] at q; cases q; exact new
  · rw [upd_ne hb] at q
    by_cases hbe : b = e
    · have q' : H b = some (.own x) := by
        rcases he with z | z
        · exact absurd (hbe.trans z) hb
        · rw [hbe]; exact z
      rw [q] at q'; cases q'
      obtain ⟨v, hv⟩ := heo
      exact ⟨v, by rw [hbe]; exact hv⟩
    · refine (ok b u q).stay (fun c v hc r => k c v ?_ r) (fun c r => by rw [upd_ne (nown c b r)]; exact r) fun c xs r => by rw [upd_ne (ntup c xs r)]; exact r
      rcases hc with rfl | hc
      · exact hbe
      · rintro rfl
        rcases he with z | z
        · exact nown c b hc z
        · rw [hc] at z; cases z; exact hb rfl
end
structure Un (fs ex : List Addr) (H H' : Hp) (h h' : Heap) : Prop where
  keep : ∀ b o, h.get? b = some o → H b = none → b ∉ fs → b ∉ ex → h'.get? b = some o
  slot : ∀ b o, h.get? b = some o → H b = none → b ∈ fs → b ∉ ex → ∃ sl, h'.get? b = some { o with slots := sl }
  free : ∀ b o, h.get? b = some o → H b = none → b ∉ ex → H' b = none
  there : ∀ b o, h.get? b = some o → b ∉ ex → ∃ o', h'.get? b = some o'
  tups : ∀ b xs, H b = some (.tup xs) → H' b = some (.tup xs)
  frzs : ∀ b o u, H b = some (.frz o u) → H' b = some (.frz o u)
  tbls : ∀ b ps, H b = some (.tbl ps) → ∃ more, H' b = some (.tbl (ps ++ more))
section
variable {fs fs' ex ex' : List Addr} {H H1 H2 : Hp} {h h1 h2 h' : Heap} {a x e : Addr} {o : HO}
theorem Un.any (u : Un fs ex H H1 h h1) {b : Addr} {ob : Obj} (q : h.get? b = some ob) (n : H b = none) (hx : b ∉ ex) : ∃ sl, h1.get? b = some { ob with slots := sl } := by
  by_cases hb : b ∈ fs
  · exact u.slot b ob q n hb hx
  · exact ⟨ob.slots, u.keep b ob q n hb hx⟩
theorem Un.trans (a : Un fs ex H H1 h h1) (b : Un fs ex H1 H2 h1 h2) : Un fs ex H H2 h h2 where
  keep := fun c ob q n hc hx => b.keep c ob (a.keep c ob q n hc hx) (a.free c ob q n hx) hc hx
  slot := fun c ob q n hc hx => by
    obtain ⟨sl, e1⟩ := a.slot c ob q n hc hx
    obtain ⟨sl', e2⟩ := b.slot c _ e1 (a.free c ob q n hx) hc hx
    exact ⟨sl', e2⟩
  free := fun c ob q n hx => by
    obtain ⟨o', e1⟩ := a.there c ob q hx
    exact b.free c o' e1 (a.free c ob q n hx) hx
  there := fun c ob q hx => by
    obtain ⟨o', e1⟩ := a.there c ob q hx
    exact b.there c o' e1 hx
  tups := fun c xs q => b.tups c xs (a.tups c xs q)
  frzs := fun c ob xs q => b.frzs c ob xs (a.frzs c ob xs q)
  tbls := fun c ps q => by
    obtain ⟨m1, e1⟩ := a.tbls c ps q
    obtain ⟨m2, e2⟩ := b.tbls c _ e1
    exact ⟨m1 ++ m2, by rw [e2, Array.append_assoc]⟩
theorem Un.kept (k : ∀ b u, h.get? b = some u → h'.get? b = some u) : Un fs ex H H h h' :=
  ⟨fun b ob q _ _ _ => k b ob q, fun b ob q _ _ _ => ⟨ob.slots, k b ob q⟩, fun _ _ _ n _ => n, fun b ob q _ => ⟨ob, k b ob q⟩, fun _ _ q => q, fun _ _ _ q => q, fun _ ps q => ⟨#[], by rw [q]; simp⟩⟩
theorem Un.refl : Un fs ex H H h h := Un.kept fun _ _ q => q
theorem Un.laid (k : ∀ b u, h.get? b = some u → h'.get? b = some u) (hp : h.objs.size ≤ a) (hn : H a = none) : Un fs ex H (upd H a o) h h' where
  keep := fun b u q _ _ _ => k b u q
  slot := fun b u q _ _ _ => ⟨u.slots, k b u q⟩
  free := fun b u q n _ => by rw [upd_ne (Nat.ne_of_lt (Nat.lt_of_lt_of_le (Heap.lt_size q) hp))]; exact n
  there := fun b u q _ => ⟨u, k b u q⟩
  tups := fun b xs q => by rw [upd_ne (ne_of_none q hn)]; exact q
  frzs := fun b u xs q => by rw [upd_ne (ne_of_none q hn)]; exact q
  tbls := fun b ps q => ⟨#[], by rw [upd_ne (ne_of_none q hn), q]; simp⟩
theorem Un.write (mu : Mut (H x)) (he : e = x ∨ H e = some (.own x)) (k : ∀ b u, b ≠ e → h.get? b = some u → h'.get? b = some u) (heo : ∃ u, h'.get? e = some u) : Un fs ex H (upd H x o) h h' := by
  have hx : ∀ b, H b = none → b ≠ x := fun b n z => by subst z; rw [n] at mu; exact mu
  have hb : ∀ b, H b = none → b ≠ e := fun b n z => by
    subst z
    rcases he with r | r
    · exact hx b n r
    · rw [n] at r; cases r
  have hm : ∀ b u, H b = some u → ¬ Mut (some u) → b ≠ x := fun b u q nm z => by subst z; rw [q] at mu; exact nm mu
  refine ⟨fun b u q n _ _ => k b u (hb b n) q, fun b u q n _ _ => ⟨u.slots, k b u (hb b n) q⟩, fun b u q n _ => by rw [upd_ne (hx b n)]; exact n, fun b u q _ => ?_,
    fun b xs q => by rw [upd_ne (hm b _ q fun z => z)]; exact q, fun b u xs q => by rw [upd_ne (hm b _ q fun z => z)]; exact q, fun b ps q => ⟨#[], by rw [upd_ne (hm b _ q fun z => z), q]; simp⟩⟩
  by_cases hbe : b = e
  · subst hbe; exact heo
  · exact ⟨u, k b u hbe q⟩
theorem Un.mono (u : Un fs ex H H1 h h1) (hs : ∀ b ∈ fs, b ∈ fs') (hx : ∀ b ∈ ex, b ∈ ex') : Un fs' ex' H H1 h h1 :=
  ⟨fun b ob q n hb he => u.keep b ob q n (fun z => hb (hs b z)) fun z => he (hx b z), fun _ _ q n _ he => u.any q n fun z => he (hx _ z), fun b ob q n he => u.free b ob q n fun z => he (hx b z), fun b ob q he => u.there b ob q fun z => he (hx b z), u.tups, u.frzs, u.tbls⟩
end
noncomputable def trk (h : Heap) (H : Hp) : List Addr := (List.range h.objs.size).filter fun a => (H a).isSome
noncomputable def hidT (h : Heap) (H : Hp) : Heap := PySem.W.hideAll h (trk h H)
theorem hidT_size (h : Heap) (H : Hp) : (hidT h H).objs.size = h.objs.size := PySem.W.hideAll_size _ _
theorem hidT_get {h : Heap} {H : Hp} {b : Addr} {o : Obj} (e : h.get? b = some o) (n : H b = none) : (hidT h H).get? b = some o :=
  PySem.W.hideAll_get _ e fun hm => by
    have q : (H b).isSome = true := (List.mem_filter.mp hm).2
    rw [n] at q; simp at q
theorem of_hidT {h : Heap} {H : Hp} {b : Addr} {o : Obj} (e : (hidT h H).get? b = some o) : h.get? b = some o ∧ H b = none := by
  have e' : h.get? b = some o := PySem.W.of_hideAll (trk h H) e
  refine ⟨e', ?_⟩
  cases q : H b with
  | none => rfl
  | some x =>
    have hm : b ∈ trk h H := List.mem_filter.mpr ⟨List.mem_range.mpr (Heap.lt_size e'), by simp [q]⟩
    have z : (hidT h H).get? b = none := PySem.W.hideAll_none (trk h H) hm
    rw [z] at e; cases e
noncomputable def allNews (g h : Heap) (L : Addr) : List (Addr × Obj) := (List.range h.objs.size).filterMap fun a => if a = L ∨ (g.get? a).isSome = true then none else (h.get? a).map fun o => (a, o)
noncomputable def rest (g h : Heap) (L d : Addr) : List (Addr × Obj) := (allNews g h L).filter fun p => decide (p.1 ≠ d)
end L2
namespace L2
open PySem PySem.Spec PyProof.Rows
structure Mod (K : PySem.W.Frag) (mg : Str → Option Value) (base : Heap) : Prop where
  kin : K.In base
  glob : base.Ns mainGlobals mg
  blt : ∃ mb, base.Ns builtinsNs mb ∧ ∀ x : Str, x ≠ "__name__" → mb x = bootBuiltins x
  nolimit : base.NoLimit
/-- the context: a def's body (or a comprehension's block) running. base: fixed through the whole law; s₀, H₀: the entry; outer: the frames whose slots others may change (a def's callers); stack: all frames that run;
   ex: iterators that were made ahead of the entry and are walked here (a comprehension's); fn: the names whose cells were made at the entry (a def: all; a comprehension's block: its own); calm: not within an except suite; pn: pins that every state bears; xe: what is wanted of an exception that leaves the code -/
structure Cx where
  prog : Program
  w : World
  K : PySem.W.Frag
  mg : Str → Option Value
  base : Heap
  A : Around
  N : List Str
  s₀ : Shared
  H₀ : Hp
  env : Env
  outer : List Env
  stack : List Env
  ex : List Addr
  fn : Str → Bool
  calm : Bool
  pn : List (Addr × Obj)
  xe : Value → Shared → Prop
noncomputable def frs (l : List Env) : List Addr := l.filterMap (·.frame)
noncomputable abbrev Cx.fs (X : Cx) : List Addr := frs X.outer
noncomputable def Vis (sc : Scope) (x : Str) : Prop := sc.names.lookup x = some .local ∨ sc.names.lookup x = some .cell ∨ sc.names.lookup x = some .free
noncomputable def Loc (sc : Scope) (x : Str) : Prop := sc.names.lookup x = some .local ∨ sc.names.lookup x = some .cell
noncomputable def Look (env : Env) (h : Heap) (m : Str → Option Value) (x : Str) (u : Value) : Prop :=
  (env.kindOf x = some .local ∧ m x = some u) ∨ ((env.kindOf x = some .cell ∨ env.kindOf x = some .free) ∧ ∃ c, env.cells.lookup x = some c ∧ h.IsCell c (some u))
structure Cx.Ok (X : Cx) : Prop where
  mod : Mod X.K X.mg X.base
  kind : X.env.scope.kind = .function
  glob : X.env.globals = mainGlobals
  blt : X.env.builtins = builtinsNs
  above : X.s₀.heap.objs.size ≤ X.env.locals
  inj : ∀ x y c, X.env.cells.lookup x = some c → X.env.cells.lookup y = some c → x = y
  has : ∀ x, (X.env.kindOf x = some .cell ∨ X.env.kindOf x = some .free) → ∃ c, X.env.cells.lookup x = some c
  cab : ∀ x c, X.fn x = true → X.env.cells.lookup x = some c → X.s₀.heap.objs.size ≤ c
  hd : X.calm = true → X.A.handled = none
  frames : X.A.frames = some X.stack
  stk : X.stack = X.outer ∨ (X.stack = X.env :: X.outer ∧ X.env.frame = some X.env.locals)
  exf : ∀ b ∈ X.ex, b ≠ X.env.locals ∧ ∀ x c, X.env.cells.lookup x = some c → c ≠ b
  bs : ∀ b o, X.base.get? b = some o → X.s₀.heap.get? b = some o ∧ X.H₀ b = none
  bsz : X.base.objs.size ≤ X.s₀.heap.objs.size
  noex : ∀ b o, X.base.get? b = some o → b ∉ X.ex
  exfs : ∀ b ∈ X.ex, b ∉ X.fs
  funs : X.s₀.heap.FunFrames X.base X.outer
  frf : ∀ b ∈ X.fs, X.H₀ b = none
structure Inv (X : Cx) (pins : List (Addr × Obj)) (σ : List (Option V)) (H : Hp) (s : Shared) : Prop where
  ok : X.Ok
  os : s.os = X.s₀.os
  bare : AllBare s.gens
  base : Un X.fs X.ex X.H₀ H X.s₀.heap s.heap
  loc : ∃ m, s.heap.Ns X.env.locals m ∧ ∀ (i : Nat) (x : Str) (v : V), X.N[i]? = some x → σ[i]? = some (some v) → Vis X.env.scope x → ∃ u, RelV v u ∧ Look X.env s.heap m x u
  cell : ∀ x c, X.env.cells.lookup x = some c → ∃ v, s.heap.IsCell c v
  free : H X.env.locals = none
  freeC : ∀ x c, X.env.cells.lookup x = some c → H c = none
  pin : ∀ p ∈ X.pn ++ pins, s.heap.get? p.1 = some p.2 ∧ H p.1 = none ∧ p.1 ≠ X.env.locals ∧ p.1 ∉ X.fs ∧ ∀ v, p.2.data ≠ .cell v
  hok : HOk X.prog X.w H s.heap
  len : σ.length = X.N.length
section
variable {X : Cx} {pins : List (Addr × Obj)} {σ : List (Option V)} {H H' : Hp} {s : Shared} {h' : Heap}
theorem Cx.Ok.nofr (ok : X.Ok) {b : Addr} {o : Obj} (e : X.base.get? b = some o) : b ∉ X.fs := fun hb => by
  have := (ok.funs.mem hb).1
  rw [e] at this; cases this
theorem Inv.bs (I : Inv X pins σ H s) : ∀ b o, X.base.get? b = some o → s.heap.get? b = some o ∧ H b = none := fun b o e =>
  ⟨I.base.keep b o (I.ok.bs b o e).1 (I.ok.bs b o e).2 (I.ok.nofr e) (I.ok.noex b o e), I.base.free b o (I.ok.bs b o e).1 (I.ok.bs b o e).2 (I.ok.noex b o e)⟩
theorem Inv.bk (I : Inv X pins σ H s) : ∀ b o, X.base.get? b = some o → s.heap.get? b = some o := fun b o e => (I.bs b o e).1
theorem Inv.mod (I : Inv X pins σ H s) : Mod X.K X.mg X.base := I.ok.mod
theorem Inv.kIn (I : Inv X pins σ H s) : X.K.In s.heap := I.ok.mod.kin.keeps I.bk
theorem Inv.nolimit (I : Inv X pins σ H s) : s.heap.NoLimit := I.ok.mod.nolimit.keeps I.bk
theorem Inv.lt (I : Inv X pins σ H s) : X.env.locals < s.heap.objs.size := let ⟨_, hn, _⟩ := I.loc; hn.lt
theorem Inv.sz (I : Inv X pins σ H s) : X.s₀.heap.objs.size ≤ s.heap.objs.size := Nat.le_trans I.ok.above (Nat.le_of_lt I.lt)
theorem Inv.nofs (I : Inv X pins σ H s) {a : Addr} (h : s.heap.objs.size ≤ a) : a ∉ X.fs := fun hb => by
  obtain ⟨_, o, ho, _⟩ := I.ok.funs.mem hb
  exact absurd (Nat.lt_of_lt_of_le (Heap.lt_size ho) (Nat.le_trans I.sz h)) (Nat.lt_irrefl _)
theorem Inv.cne (I : Inv X pins σ H s) : ∀ x c, X.env.cells.lookup x = some c → c ≠ X.env.locals := fun x c e z => by
  obtain ⟨v, o, ho, hd⟩ := I.cell x c e
  obtain ⟨m, ⟨o', es, ep, ho', hd', _⟩, _⟩ := I.loc
  rw [z, ho'] at ho; cases ho; rw [hd'] at hd; cases hd
theorem Inv.funs (I : Inv X pins σ H s) : s.heap.FunFrames X.base X.outer := by
  have all : ∀ (l : List Env), (∀ b ∈ frs l, b ∈ X.fs) → X.s₀.heap.FunFrames X.base l → s.heap.FunFrames X.base l := by
    intro l
    induction l with
    | nil => intro _ _; trivial
    | cons env r ih =>
      intro hs hl
      obtain ⟨hk, ⟨L, o, hf, hn, ho, hd⟩, hr⟩ := hl
      have hL : L ∈ X.fs := hs L (by unfold frs; rw [List.filterMap_cons, hf]; exact List.mem_cons_self)
      obtain ⟨sl, e⟩ := I.base.slot L o ho (I.ok.frf L hL) hL fun z => I.ok.exfs L z hL
      exact ⟨hk, ⟨L, _, hf, hn, e, hd⟩, ih (fun b hb => hs b (by unfold frs; rw [List.filterMap_cons, hf]; exact List.mem_cons_of_mem _ hb)) hr⟩
  exact all X.outer (fun _ hb => hb) I.ok.funs
theorem Inv.stack (I : Inv X pins σ H s) : s.heap.FunFrames X.base X.stack := by
  rcases I.ok.stk with e | ⟨e, hf⟩
  · rw [e]; exact I.funs
  · rw [e]
    obtain ⟨m, hn, _⟩ := I.loc
    refine .cons (by rw [I.ok.kind]; decide) hf hn ?_ I.funs
    exact Heap.get?_none_of_le (Nat.le_trans I.ok.bsz I.ok.above)
theorem Inv.stkSub (I : Inv X pins σ H s) : ∀ b ∈ frs X.stack, b ∈ X.env.locals :: X.fs := fun b hb => by
  rcases I.ok.stk with e | ⟨e, hf⟩
  · rw [e] at hb; exact List.mem_cons_of_mem _ hb
  · rw [e] at hb
    unfold frs at hb
    rw [List.filterMap_cons, hf] at hb
    exact hb
theorem Inv.stkFree (I : Inv X pins σ H s) : ∀ b ∈ frs X.stack, H b = none := fun b hb => by
  rcases List.mem_cons.mp (I.stkSub b hb) with e | hb
  · rw [e]; exact I.free
  · obtain ⟨_, o, ho, _⟩ := I.ok.funs.mem hb
    exact I.base.free b o ho (I.ok.frf b hb) fun z => I.ok.exfs b z hb
theorem Inv.step {g' : Array GenState} {t' : Nat} {d' : Drawn} {ch : List Addr} (I : Inv X pins σ H s)
    (hch : ∀ b ∈ ch, (b ∈ X.ex ∨ X.s₀.heap.objs.size ≤ b) ∧ b ≠ X.env.locals ∧ (∀ x c, X.env.cells.lookup x = some c → c ≠ b) ∧ ∀ p ∈ X.pn ++ pins, p.1 ≠ b)
    (keep : ∀ b o, b ≠ X.env.locals → b ∉ X.fs → b ∉ ch → s.heap.get? b = some o → H b = none → h'.get? b = some o)
    (slot : ∀ b o, b ≠ X.env.locals → b ∈ X.fs → b ∉ ch → s.heap.get? b = some o → H b = none → ∃ sl, h'.get? b = some { o with slots := sl }) (free : ∀ b o, b ∉ ch → s.heap.get? b = some o → H b = none → H' b = none)
    (there : ∀ b o, b ∉ ch → s.heap.get? b = some o → ∃ o', h'.get? b = some o')
    (tups : ∀ b xs, H b = some (.tup xs) → H' b = some (.tup xs)) (frzs : ∀ b o u, H b = some (.frz o u) → H' b = some (.frz o u)) (tbls : ∀ b ps, H b = some (.tbl ps) → ∃ more, H' b = some (.tbl (ps ++ more)))
    (ns : ∀ m, s.heap.Ns X.env.locals m → h'.Ns X.env.locals m) (hok : HOk X.prog X.w H' h') (hg : AllBare g') :
    Inv X pins σ H' { s with heap := h', gens := g', drawn := d', toks := t' } := by
  have neL : ∀ b o, X.s₀.heap.get? b = some o → b ≠ X.env.locals := fun b o e => Nat.ne_of_lt (Nat.lt_of_lt_of_le (Heap.lt_size e) I.ok.above)
  have neC : ∀ b o, X.s₀.heap.get? b = some o → b ∉ X.ex → b ∉ ch := fun b o e hx hb => by
    rcases (hch b hb).1 with z | z
    · exact hx z
    · exact absurd (Nat.lt_of_lt_of_le (Heap.lt_size e) z) (Nat.lt_irrefl _)
  have cellK : ∀ x c, X.env.cells.lookup x = some c → ∀ v, s.heap.IsCell c v → h'.IsCell c v := fun x c e v ⟨o, ho, hd⟩ => by
    have nch : c ∉ ch := fun z => (hch c z).2.2.1 x c e rfl
    by_cases hc : c ∈ X.fs
    · obtain ⟨sl, q⟩ := slot c o (I.cne x c e) hc nch ho (I.freeC x c e)
      exact ⟨_, q, hd⟩
    · exact ⟨o, keep c o (I.cne x c e) hc nch ho (I.freeC x c e), hd⟩
  refine ⟨I.ok, I.os, hg, ⟨fun b o e n hb hx => ?_, fun b o e n hb hx => ?_, fun b o e n hx => ?_, fun b o e hx => ?_, fun b xs e => tups b xs (I.base.tups b xs e), fun b o xs e => frzs b o xs (I.base.frzs b o xs e), fun b ps e => ?_⟩, ?_, fun x c e => ?_, ?_, fun x c e => ?_, fun p hp => ?_, hok, I.len⟩
  · exact keep b o (neL b o e) hb (neC b o e hx) (I.base.keep b o e n hb hx) (I.base.free b o e n hx)
  · obtain ⟨sl, e1⟩ := I.base.slot b o e n hb hx
    obtain ⟨sl', e2⟩ := slot b _ (neL b o e) hb (neC b o e hx) e1 (I.base.free b o e n hx)
    exact ⟨sl', e2⟩
  · obtain ⟨o', e1⟩ := I.base.there b o e hx
    exact free b o' (neC b o e hx) e1 (I.base.free b o e n hx)
  · obtain ⟨o', e1⟩ := I.base.there b o e hx
    exact there b o' (neC b o e hx) e1
  · obtain ⟨m1, e1⟩ := I.base.tbls b ps e
    obtain ⟨m2, e2⟩ := tbls b _ e1
    exact ⟨m1 ++ m2, by rw [e2, Array.append_assoc]⟩
  · obtain ⟨m, hn, hl⟩ := I.loc
    refine ⟨m, ns m hn, fun i x v e1 e2 e3 => ?_⟩
    obtain ⟨u, r, l⟩ := hl i x v e1 e2 e3
    refine ⟨u, r, ?_⟩
    rcases l with l | ⟨k, c, e, z⟩
    · exact .inl l
    · exact .inr ⟨k, c, e, cellK x c e _ z⟩
  · obtain ⟨v, z⟩ := I.cell x c e
    exact ⟨v, cellK x c e v z⟩
  · obtain ⟨m, ⟨o, _, _, ho, _⟩, _⟩ := I.loc
    exact free _ o (fun z => (hch _ z).2.1 rfl) ho I.free
  · obtain ⟨v, o, ho, hd⟩ := I.cell x c e
    exact free c o (fun z => (hch c z).2.2.1 x c e rfl) ho (I.freeC x c e)
  · obtain ⟨e, n, ne, nf, d⟩ := I.pin p hp
    have nch : p.1 ∉ ch := fun z => (hch p.1 z).2.2.2 p hp rfl
    exact ⟨keep p.1 p.2 ne nf nch e n, free p.1 p.2 nch e n, ne, nf, d⟩
theorem Inv.un {t' : Nat} (I : Inv X pins σ H s) (u : Un X.fs [] H H' s.heap h') (hok : HOk X.prog X.w H' h') : Inv X pins σ H' { s with heap := h', toks := t' } := by
  obtain ⟨m, ⟨o, es, ep, ho, r⟩, _⟩ := id I.loc
  obtain ⟨sl, hL⟩ := u.any ho I.free (by simp)
  exact I.step (g' := s.gens) (d' := s.drawn) (ch := []) (fun _ z => nomatch z) (fun b o _ hb _ e n => u.keep b o e n hb (by simp)) (fun b o _ hb _ e n => u.slot b o e n hb (by simp)) (fun b o _ e n => u.free b o e n (by simp)) (fun b o _ e => u.there b o e (by simp)) u.tups u.frzs u.tbls (fun m' hm => by
    obtain ⟨o', es', ep', ho', r'⟩ := hm
    rw [ho] at ho'; cases ho'
    exact ⟨_, es', ep', hL, r'⟩) hok I.bare
theorem Inv.call {g' : Array GenState} {t' : Nat} {d' : Drawn} {ch : List Addr} (I : Inv X pins σ H s) (u : Un (frs X.stack) ch H H' s.heap h') (hok : HOk X.prog X.w H' h') (hg : AllBare g')
    (hch : ∀ b ∈ ch, (b ∈ X.ex ∨ X.s₀.heap.objs.size ≤ b) ∧ b ≠ X.env.locals ∧ (∀ x c, X.env.cells.lookup x = some c → c ≠ b) ∧ ∀ p ∈ X.pn ++ pins, p.1 ≠ b) :
    Inv X pins σ H' { s with heap := h', gens := g', drawn := d', toks := t' } := by
  obtain ⟨m, ⟨o, es, ep, ho, r⟩, _⟩ := id I.loc
  obtain ⟨sl, hL⟩ := u.any ho I.free fun z => (hch _ z).2.1 rfl
  exact I.step (ch := ch) hch (fun b o hL hb hc e n => u.keep b o e n (fun z => (List.mem_cons.mp (I.stkSub b z)).elim hL hb) hc) (fun b o _ _ hc e n => u.any e n hc) (fun b o hc e n => u.free b o e n hc) (fun b o hc e => u.there b o e hc) u.tups u.frzs u.tbls (fun m' hm => by
    obtain ⟨o', es', ep', ho', r'⟩ := hm
    rw [ho] at ho'; cases ho'
    exact ⟨_, es', ep', hL, r'⟩) hok hg
theorem Inv.turned {t' : Nat} {it : Addr} (I : Inv X pins σ H s) (k : ∀ b o, b ≠ it → s.heap.get? b = some o → h'.get? b = some o) (hn : H it = none) (hL : it ≠ X.env.locals)
    (h1 : it ∈ X.ex ∨ X.s₀.heap.objs.size ≤ it) (h2 : ∀ x c, X.env.cells.lookup x = some c → c ≠ it) (h3 : ∀ p ∈ X.pn ++ pins, p.1 ≠ it) : Inv X pins σ H { s with heap := h', toks := t' } := by
  have nit : ∀ b u, H b = some u → b ≠ it := fun b u e z => by rw [z, hn] at e; cases e
  refine I.step (g' := s.gens) (d' := s.drawn) (ch := [it]) (fun b hb => ?_) (fun b o _ _ hc e _ => k b o (fun z => hc (by simp [z])) e) (fun b o _ _ hc e _ => ⟨o.slots, k b o (fun z => hc (by simp [z])) e⟩) (fun _ _ _ _ n => n)
    (fun b o hc e => ⟨o, k b o (fun z => hc (by simp [z])) e⟩) (fun _ _ e => e) (fun _ _ _ e => e) (fun b ps e => ⟨#[], by rw [e]; simp⟩) (fun m hm => ?_) (fun b u e => ?_) I.bare
  · have e : b = it := by simpa using hb
    subst e
    exact ⟨h1, hL, h2, h3⟩
  · obtain ⟨o, es, ep, ho, r⟩ := hm
    exact ⟨o, es, ep, k _ o (Ne.symm hL) ho, r⟩
  · refine (I.hok b u e).stay (fun c v hc q => k c v ?_ q) (fun _ q => q) fun _ _ q => q
    rcases hc with z | z
    · rw [z]; exact nit b u e
    · exact nit c _ z
theorem Inv.tok (I : Inv X pins σ H s) (t : Nat) : Inv X pins σ H { s with toks := t } := I.un (h' := s.heap) (t' := t) Un.refl I.hok
theorem Inv.kept {t' : Nat} (I : Inv X pins σ H s) (k : ∀ b u, s.heap.get? b = some u → h'.get? b = some u) : Inv X pins σ H { s with heap := h', toks := t' } := I.un (Un.kept k) (I.hok.kept k)
theorem Inv.laid {a : Addr} {o : HO} {t' : Nat} (I : Inv X pins σ H s) (k : ∀ b u, s.heap.get? b = some u → h'.get? b = some u) (hp : s.heap.objs.size ≤ a) (new : ObjOk X.prog X.w (upd H a o) h' a o) :
    Inv X pins σ (upd H a o) { s with heap := h', toks := t' } := I.un (Un.laid k hp (I.hok.fresh hp)) (I.hok.laid k hp new)
theorem Inv.write {x e : Addr} {o : HO} {t' : Nat} (I : Inv X pins σ H s) (mu : Mut (H x)) (he : e = x ∨ H e = some (.own x)) (k : ∀ b u, b ≠ e → s.heap.get? b = some u → h'.get? b = some u) (heo : ∃ u, h'.get? e = some u)
    (new : ObjOk X.prog X.w (upd H x o) h' x o) : Inv X pins σ (upd H x o) { s with heap := h', toks := t' } := I.un (Un.write mu he k heo) (I.hok.write mu he k heo new)
theorem Inv.pins_of {pins' : List (Addr × Obj)} (I : Inv X pins σ H s) (h : ∀ p ∈ pins', s.heap.get? p.1 = some p.2 ∧ H p.1 = none ∧ p.1 ≠ X.env.locals ∧ p.1 ∉ X.fs ∧ ∀ v, p.2.data ≠ .cell v) : Inv X pins' σ H s :=
  ⟨I.ok, I.os, I.bare, I.base, I.loc, I.cell, I.free, I.freeC, fun p hp => (List.mem_append.mp hp).elim (fun z => I.pin p (List.mem_append_left _ z)) (h p), I.hok, I.len⟩
theorem nodup_ix {N : List Str} (hN : N.Nodup) {i j : Nat} {x : Str} (a : N[i]? = some x) (b : N[j]? = some x) : i = j := by
  obtain ⟨h1, e1⟩ := List.getElem?_eq_some_iff.mp a
  obtain ⟨h2, e2⟩ := List.getElem?_eq_some_iff.mp b
  exact (List.getElem_inj hN).mp (e1.trans e2.symm)
theorem store_ok2 {M : Model} {A : Around} {E : Value → Shared → Prop} {i : Nat} {x : Str} {v : V} {u : Value} {Q : Unit → Shared → Prop} (I : Inv X pins σ H s) (hN : X.N.Nodup) (hi : X.N[i]? = some x) (hx : Loc X.env.scope x) (r : RelV v u)
    (h : ∀ s', Inv X pins (σ.set i (some v)) H s' → (∃ a, Heap.SameBut a s.heap s'.heap ∧ (a = X.env.locals ∨ X.env.cells.lookup x = some a)) → Q () s') (hf : X.fn x = true ∨ X.env.scope.names.lookup x = some .local := by first | exact .inl rfl | exact .inr rfl | assumption) : wpAny M A (storeName X.env x u) Q E s := by
  obtain ⟨m, hn, hl⟩ := id I.loc
  have hcls : (X.env.scope.kind == .class || (X.env.scope.kind == .module && X.env.locals != X.env.globals)) = false := by rw [I.ok.kind]; rfl
  have hiσ : i < σ.length := by rw [I.len]; exact (List.getElem?_eq_some_iff.mp hi).1
  have cne := I.cne
  have tracked : ∀ {a : Addr} {h' : Heap}, (∃ o, s.heap.get? a = some o ∧ H a = none) → Heap.SameBut a s.heap h' → HOk X.prog X.w H h' := fun {a h'} ha hs b ob e => by
    obtain ⟨_, _, hfree⟩ := ha
    refine (I.hok b ob e).stay (fun c w' hc q => (hs.2 c ?_).trans q) (fun _ q => q) fun _ _ q => q
    rintro rfl
    rcases hc with rfl | hc
    · rw [hfree] at e; cases e
    · rw [hfree] at hc; cases hc
  rcases hx with hk | hk
  · refine wpAny_storeName_local hk hn (fun h' hn' hs => ?_) hcls
    obtain ⟨oL, _, _, hoL, _⟩ := id hn
    refine h _ ⟨I.ok, I.os, I.bare, ⟨fun b o e n hb hx => ?_, fun b o e n hb hx => ?_, I.base.free, fun b o e hx => ?_, I.base.tups, I.base.frzs, I.base.tbls⟩, ⟨_, hn', fun j y v' e1 e2 e3 => ?_⟩, fun y c e => ?_, I.free, I.freeC, fun p hp => ?_, tracked ⟨oL, hoL, I.free⟩ hs, by simpa using I.len⟩ ⟨_, hs, .inl rfl⟩
    · exact (hs.2 b (Nat.ne_of_lt (Nat.lt_of_lt_of_le (Heap.lt_size e) I.ok.above))).trans (I.base.keep b o e n hb hx)
    · obtain ⟨sl, e1⟩ := I.base.slot b o e n hb hx
      exact ⟨sl, (hs.2 b (Nat.ne_of_lt (Nat.lt_of_lt_of_le (Heap.lt_size e) I.ok.above))).trans e1⟩
    · obtain ⟨o', e1⟩ := I.base.there b o e hx
      exact ⟨o', (hs.2 b (Nat.ne_of_lt (Nat.lt_of_lt_of_le (Heap.lt_size e) I.ok.above))).trans e1⟩
    · by_cases hj : j = i
      · subst hj
        rw [hi] at e1; cases e1
        rw [List.getElem?_set_self hiσ] at e2
        cases e2
        exact ⟨u, r, .inl ⟨hk, by simp⟩⟩
      · rw [List.getElem?_set_ne (Ne.symm hj)] at e2
        obtain ⟨u', r', q⟩ := hl j y v' e1 e2 e3
        refine ⟨u', r', ?_⟩
        rcases q with ⟨k, e⟩ | ⟨k, c, e, z⟩
        · refine .inl ⟨k, ?_⟩
          have : y ≠ x := fun e => hj (nodup_ix hN e1 (e ▸ hi))
          simp [this, e]
        · exact .inr ⟨k, c, e, z.sameBut hs (cne y c e)⟩
    · obtain ⟨w', z⟩ := I.cell y c e
      exact ⟨w', z.sameBut hs (cne y c e)⟩
    · obtain ⟨e, n, ne, nf, d⟩ := I.pin p hp
      exact ⟨(hs.2 p.1 ne).trans e, n, ne, nf, d⟩
  · have hfn : X.fn x = true := by
      rcases hf with z | z
      · exact z
      · rw [z] at hk; cases hk
    obtain ⟨c, hc⟩ := I.ok.has x (.inl hk)
    obtain ⟨w', z⟩ := I.cell x c hc
    refine wpAny_storeName_cell I.ok.kind hk hc z (fun h' hc' hs => ?_)
    obtain ⟨oc, hoc, hocd⟩ := id z
    refine h { s with heap := h' } ⟨I.ok, I.os, I.bare, ⟨fun b o e n hb hx => ?_, fun b o e n hb hx => ?_, I.base.free, fun b o e hx => ?_, I.base.tups, I.base.frzs, I.base.tbls⟩, ⟨m, hn.sameBut hs (Ne.symm (cne x c hc)), fun j y v' e1 e2 e3 => ?_⟩, fun y c' e => ?_, I.free, I.freeC, fun p hp => ?_, tracked ⟨oc, hoc, I.freeC x c hc⟩ hs, by simpa using I.len⟩ ⟨c, hs, .inr hc⟩
    · exact (hs.2 b (Nat.ne_of_lt (Nat.lt_of_lt_of_le (Heap.lt_size e) (I.ok.cab x c hfn hc)))).trans (I.base.keep b o e n hb hx)
    · obtain ⟨sl, e1⟩ := I.base.slot b o e n hb hx
      exact ⟨sl, (hs.2 b (Nat.ne_of_lt (Nat.lt_of_lt_of_le (Heap.lt_size e) (I.ok.cab x c hfn hc)))).trans e1⟩
    · obtain ⟨o', e1⟩ := I.base.there b o e hx
      exact ⟨o', (hs.2 b (Nat.ne_of_lt (Nat.lt_of_lt_of_le (Heap.lt_size e) (I.ok.cab x c hfn hc)))).trans e1⟩
    · by_cases hj : j = i
      · subst hj
        rw [hi] at e1; cases e1
        rw [List.getElem?_set_self hiσ] at e2
        cases e2
        exact ⟨u, r, .inr ⟨.inl hk, c, hc, hc'⟩⟩
      · rw [List.getElem?_set_ne (Ne.symm hj)] at e2
        obtain ⟨u', r', q⟩ := hl j y v' e1 e2 e3
        refine ⟨u', r', ?_⟩
        rcases q with q | ⟨k, c', e, z'⟩
        · exact .inl q
        · refine .inr ⟨k, c', e, z'.sameBut hs ?_⟩
          rintro rfl
          exact hj (nodup_ix hN e1 (I.ok.inj _ _ _ e hc ▸ hi))
    · by_cases hcc : c' = c
      · subst hcc; exact ⟨_, hc'⟩
      · obtain ⟨w2, z2⟩ := I.cell y c' e
        exact ⟨w2, z2.sameBut hs hcc⟩
    · obtain ⟨e, n, ne, nf, d⟩ := I.pin p hp
      refine ⟨(hs.2 p.1 ?_).trans e, n, ne, nf, d⟩
      intro q
      rw [q, hoc] at e
      have q' : oc = p.2 := Option.some.inj e
      exact d w' (by rw [← q']; exact hocd)
theorem store_ok {M : Model} {A : Around} {E : Value → Shared → Prop} {i : Nat} {x : Str} {v : V} {u : Value} {Q : Unit → Shared → Prop} (I : Inv X pins σ H s) (hN : X.N.Nodup) (hi : X.N[i]? = some x) (hx : Loc X.env.scope x) (r : RelV v u)
    (h : ∀ s', Inv X pins (σ.set i (some v)) H s' → Q () s') (hf : X.fn x = true ∨ X.env.scope.names.lookup x = some .local := by first | exact .inl rfl | exact .inr rfl | assumption) : wpAny M A (storeName X.env x u) Q E s :=
  store_ok2 I hN hi hx r (fun s' I' _ => h s' I') hf
theorem Inv.call' {s' : Shared} {ch : List Addr} (I : Inv X pins σ H s) (ho : s'.os = s.os) (u : Un (frs X.stack) ch H H' s.heap s'.heap) (hok : HOk X.prog X.w H' s'.heap) (hg : AllBare s'.gens)
    (hch : ∀ b ∈ ch, (b ∈ X.ex ∨ X.s₀.heap.objs.size ≤ b) ∧ b ≠ X.env.locals ∧ (∀ x c, X.env.cells.lookup x = some c → c ≠ b) ∧ ∀ p ∈ X.pn ++ pins, p.1 ≠ b) : Inv X pins σ H' s' := by
  obtain ⟨h', g', d', t', o'⟩ := s'
  have e : o' = s.os := ho
  subst e
  exact I.call (g' := g') (t' := t') (d' := d') u hok hg hch
end
noncomputable abbrev XK := Value → Option Addr → Hp → Prop
noncomputable abbrev St := List (Option V)
noncomputable abbrev VK := V → Hp → Prop
noncomputable abbrev TE := St → Hp → VK → Prop
noncomputable abbrev TT := St → Hp → (Bool → Hp → Prop) → Prop
noncomputable abbrev TA := St → Hp → (List V → Hp → Prop) → Prop
structure Ends where
  nx : St → Hp → Prop
  rt : VK
  bk : St → Hp → Prop := fun _ _ => False
  ct : St → Hp → Prop := fun _ _ => False
noncomputable abbrev TS := Ends → St → Hp → Prop
noncomputable def EP (X : Cx) (pins : List (Addr × Obj)) (σ : St) (Q : VK) (u : Value) (s' : Shared) : Prop := ∃ v H', Inv X pins σ H' s' ∧ RelV v u ∧ Q v H'
noncomputable def TP (X : Cx) (pins : List (Addr × Obj)) (σ : St) (Q : Bool → Hp → Prop) (b : Bool) (s' : Shared) : Prop := ∃ H', Inv X pins σ H' s' ∧ Q b H'
noncomputable def AP (X : Cx) (pins : List (Addr × Obj)) (σ : St) (Q : List V → Hp → Prop) (us : List Value) (s' : Shared) : Prop := ∃ vs H', Inv X pins σ H' s' ∧ Vals vs us ∧ Q vs H'
noncomputable def SP (X : Cx) (pins : List (Addr × Obj)) (D : Ends) (f : Flow) (s' : Shared) : Prop :=
  match f with
  | .next => ∃ σ' H', Inv X pins σ' H' s' ∧ D.nx σ' H'
  | .brk => ∃ σ' H', Inv X pins σ' H' s' ∧ D.bk σ' H'
  | .cont => ∃ σ' H', Inv X pins σ' H' s' ∧ D.ct σ' H'
  | .ret u => ∃ v σ' H', Inv X pins σ' H' s' ∧ RelV v u ∧ D.rt v H'
noncomputable def PE (X : Cx) (e : Expr) (t : TE) : Prop :=
  ∀ (pins : List (Addr × Obj)) (s : Shared) (σ : St) (H : Hp) (Q : VK), Inv X pins σ H s → t σ H Q → wpAny (model X.prog X.w) X.A (eval e X.env) (EP X pins σ Q) X.xe s
noncomputable def PT (X : Cx) (e : Expr) (t : TT) : Prop :=
  ∀ (pins : List (Addr × Obj)) (s : Shared) (σ : St) (H : Hp) (Q : Bool → Hp → Prop), Inv X pins σ H s → t σ H Q → wpAny (model X.prog X.w) X.A (isTrue e X.env (eval e X.env)) (TP X pins σ Q) X.xe s
noncomputable def PA (X : Cx) (es : List Expr) (t : TA) : Prop :=
  ∀ (pos : Pos) (pins : List (Addr × Obj)) (s : Shared) (σ : St) (H : Hp) (Q : List V → Hp → Prop), Inv X pins σ H s → t σ H Q → wpAny (model X.prog X.w) X.A (spliced (backTo pos (starEach es X.env))) (AP X pins σ Q) X.xe s
noncomputable def PS (X : Cx) (st : Stmt) (t : TS) : Prop :=
  ∀ (pins : List (Addr × Obj)) (s : Shared) (σ : St) (H : Hp) (D : Ends), Inv X pins σ H s → t D σ H → wpAny (model X.prog X.w) X.A (exec st X.env) (SP X pins D) X.xe s
noncomputable def PSs (X : Cx) (st : List Stmt) (t : TS) : Prop :=
  ∀ (pins : List (Addr × Obj)) (s : Shared) (σ : St) (H : Hp) (D : Ends), Inv X pins σ H s → t D σ H → wpAny (model X.prog X.w) X.A (execs st X.env) (SP X pins D) X.xe s
theorem thn {α : Type} {t : Sem α} {Q Q' : α → Shared → Prop} {M : Model} {A : Around} {E : Value → Shared → Prop} {s : Shared} (h : wpAny M A t Q E s) (hQ : ∀ a s, Q a s → Q' a s) : wpAny M A t Q' E s := wpAny_mono h hQ fun _ _ x => x
end L2
namespace L2
open PySem PySem.Spec PyProof.Rows
section
variable {X : Cx}
noncomputable def tVar (i : Nat) : TE := fun σ H Q => ∃ v, σ[i]? = some (some v) ∧ Q v H
noncomputable def tC (v : V) : TE := fun _ H Q => Q v H
theorem pe_var {i : Nat} {x : Str} {pos : Pos} (hN : X.N[i]? = some x) (hv : Vis X.env.scope x) (hd : (x == ("__debug__" : Str)) = false := by decide) (hcd : (x == ("__classdict__" : Str)) = false := by decide) : PE X (.Name x pos) (tVar i) := by
  intro pins s σ H Q I h
  obtain ⟨v, e, h⟩ := h
  obtain ⟨m, hn, hl⟩ := I.loc
  obtain ⟨u, r, l⟩ := hl i x v hN e hv
  have fin : EP X pins σ Q u s := ⟨v, H, I, r, h⟩
  rcases l with ⟨hk, hm⟩ | ⟨hk, c, hc, hcell⟩
  · exact wpAny_Name (wpAny_loadName_local I.ok.kind hk hn hm fin) hd
  · rcases hk with hk | hk
    · exact wpAny_Name (wpAny_loadName_cell I.ok.kind hk hc hcell fin) hd
    · exact wpAny_Name (wpAny_loadName_free I.ok.kind hk hc hcell fin hcd) hd
theorem pe_int {i j pos} : PE X (.Constant (.int i) j pos) (tC (.int i)) := fun _ _ _ H _ I h => wpAny_Constant_int ⟨.int i, H, I.tok _, ⟨_, rfl⟩, h⟩
theorem pe_bl {b j pos} : PE X (.Constant (.bool b) j pos) (tC (.bl b)) := fun _ _ _ H _ I h => Constant_bool ⟨.bl b, H, I, rfl, h⟩
theorem pe_str {x j pos} : PE X (.Constant (.str x) j pos) (tC (.str x)) := fun _ _ _ H _ I h => Calls.Constant_str ⟨.str x, H, I.tok _, ⟨_, rfl⟩, h⟩
noncomputable def Gl (X : Cx) (x : Str) : Prop := X.env.kindOf x = some .globalImplicit
theorem ld_glob {E : Value → Shared → Prop} {pins : List (Addr × Obj)} {s : Shared} {σ : St} {H : Hp} {x : Str} {u : Value} {pos : Pos} {Q : Value → Shared → Prop} (I : Inv X pins σ H s) (hg : Gl X x) (hm : X.mg x = some u) (h : Q u s)
    (hd : (x == ("__debug__" : Str)) = false := by decide) : wpAny (model X.prog X.w) X.A (eval (.Name x pos) X.env) Q E s :=
  Calls.Name_function_global I.ok.kind hg (Calls.loadGlobal_global (by rw [I.ok.glob]; exact I.mod.glob.keeps I.bk) hm h) hd
theorem ld_blt {E : Value → Shared → Prop} {pins : List (Addr × Obj)} {s : Shared} {σ : St} {H : Hp} {x : Str} {u : Value} {pos : Pos} {Q : Value → Shared → Prop} (I : Inv X pins σ H s) (hg : Gl X x) (hm : X.mg x = none) (hv : bootBuiltins x = some u) (h : Q u s)
    (hn : x ≠ "__name__" := by decide) (hd : (x == ("__debug__" : Str)) = false := by decide) : wpAny (model X.prog X.w) X.A (eval (.Name x pos) X.env) Q E s := by
  obtain ⟨mb, h1, h2⟩ := I.mod.blt
  exact Calls.Name_function_global I.ok.kind hg (Calls.loadGlobal_builtin (by rw [I.ok.glob]; exact I.mod.glob.keeps I.bk) hm (by rw [I.ok.blt]; exact h1.keeps I.bk) ((h2 x hn).trans hv) h) hd
theorem pe_glob {x : Str} {v : V} {u : Value} {pos : Pos} (hg : Gl X x) (hm : X.mg x = some u) (r : RelV v u) (hd : (x == ("__debug__" : Str)) = false := by decide) : PE X (.Name x pos) (tC v) :=
  fun _ _ _ H _ I h => ld_glob I hg hm ⟨v, H, I, r, h⟩ hd
theorem pe_bltn {x : Str} {v : V} {u : Value} {pos : Pos} (hg : Gl X x) (hm : X.mg x = none) (hv : bootBuiltins x = some u) (r : RelV v u) (hn : x ≠ "__name__" := by decide) (hd : (x == ("__debug__" : Str)) = false := by decide) : PE X (.Name x pos) (tC v) :=
  fun _ _ _ H _ I h => ld_blt I hg hm hv ⟨v, H, I, r, h⟩ hn hd
variable {a b : Expr} {ta tb : TE} {pos : Pos}
theorem nobehind (b : Expr) {op : CmpOp} (h : op ≠ .In) (h2 : op ≠ .NotIn) : behindInMarks op b = false := by
  have e1 : (op == CmpOp.In) = false := by cases op <;> first | rfl | exact absurd rfl h
  have e2 : (op == CmpOp.NotIn) = false := by cases op <;> first | rfl | exact absurd rfl h2
  cases b <;> simp [behindInMarks, e1, e2]
noncomputable def tB (t : TE) : TT := fun σ H Q => t σ H fun x H1 => ∃ c, x = .bl c ∧ Q c H1
variable {tA tB' : TT} {rest : List Expr}
end
end L2
namespace L2
open PySem PySem.Spec PyProof.Rows
noncomputable def SqL (K : PySem.W.Frag) (H : Hp) (a : Addr) (xs : List V) : Prop :=
  Rd H a (.lst xs) ∨
    ∃ (o : Obj) (its : Array Value) (n : Nat), K.lookup a = some o ∧ o.cls = .type "list" ∧ o.dict = none ∧ o.data = .seq its n ∧ its.size ≤ sizeLine ∧ Vals xs its.toList
noncomputable def SqT (K : PySem.W.Frag) (H : Hp) (a : Addr) (xs : List V) : Prop :=
  Rd H a (.tup xs) ∨
    ∃ (o : Obj) (its : Array Value) (n : Nat), K.lookup a = some o ∧ o.cls = .type "tuple" ∧ o.data = .seq its n ∧ its.size ≤ sizeLine ∧ Vals xs its.toList
noncomputable def absV : Value → Option V
  | .none => some .non
  | .bool b => some (.bl b)
  | .int i _ => some (.int i)
  | .str x _ => some (.str x)
  | .bytes b _ => some (.byt b)
  | .float b _ => some (.flt b)
  | .ref a => some (.ref a)
  | .type n => some (.ty n)
  | _ => none
theorem RelV.abs {x : V} {u : Value} (r : RelV x u) : absV u = some x := by
  cases x with
  | non => cases r; rfl
  | bl _ => cases r; rfl
  | int _ => obtain ⟨t, rfl⟩ := r; rfl
  | str _ => obtain ⟨t, rfl⟩ := r; rfl
  | byt _ => obtain ⟨t, rfl⟩ := r; rfl
  | flt _ => obtain ⟨t, rfl⟩ := r; rfl
  | ref _ => cases r; rfl
  | ty _ => cases r; rfl
theorem RelV.inj {x y : V} {u : Value} (r : RelV x u) (q : RelV y u) : x = y := Option.some.inj (r.abs.symm.trans q.abs)
theorem Vals.inj : ∀ {xs ys : List V} {us : List Value}, Vals xs us → Vals ys us → xs = ys
  | _, _, _, .nil, .nil => rfl
  | _, _, _, .cons r t, .cons r' t' => by rw [r.inj r', Vals.inj t t']
section
variable {X : Cx} {pins : List (Addr × Obj)} {σ : St} {H : Hp} {s : Shared} {a : Addr} {xs ys : List V}
theorem SqL.of {K : PySem.W.Frag} (h : H a = some (.lst xs)) : SqL K H a xs := .inl (.inl h)
theorem SqT.of {K : PySem.W.Frag} (h : H a = some (.tup xs)) : SqT K H a xs := .inl (.inl h)
theorem Inv.list (I : Inv X pins σ H s) (h : SqL X.K H a xs) : ∃ its : List Value, Vals xs its ∧ PlainL s.heap a its.toArray ∧ xs.length ≤ sizeLine := by
  rcases h with h | ⟨o, its, n, hk, hc, hd, hs, hz, r⟩
  · obtain ⟨z, its, n, r, e⟩ := h.ok I.hok
    exact ⟨its, r, ⟨_, n, e, rfl, rfl, rfl⟩, z⟩
  · refine ⟨its.toList, r, ⟨o, n, I.kIn a o hk, hc, hd, by simpa using hs⟩, ?_⟩
    have e := r.length
    simp only [Array.length_toList] at e
    omega
theorem Inv.tuple (I : Inv X pins σ H s) (h : SqT X.K H a xs) : ∃ its : List Value, Vals xs its ∧ IsTup s.heap a its.toArray ∧ xs.length ≤ sizeLine := by
  rcases h with h | ⟨o, its, n, hk, hc, hs, hz, r⟩
  · obtain ⟨z, its, r, p⟩ := h.ok I.hok
    exact ⟨its, r, p, z⟩
  · refine ⟨its.toList, r, ⟨o, I.kIn a o hk, hc, n, by simpa using hs⟩, ?_⟩
    have e := r.length
    simp only [Array.length_toList] at e
    omega
theorem Inv.list_inj (I : Inv X pins σ H s) (h : SqL X.K H a xs) (h' : SqL X.K H a ys) : xs = ys := by
  obtain ⟨its, r, ⟨o, n, e, _, _, d⟩, _⟩ := I.list h
  obtain ⟨its', r', ⟨o', n', e', _, _, d'⟩, _⟩ := I.list h'
  rw [e] at e'; cases e'
  rw [d] at d'
  injection d' with d1 _
  have : its = its' := by simpa using congrArg Array.toList d1
  subst this
  exact r.inj r'
theorem Inv.tuple_inj (I : Inv X pins σ H s) (h : SqT X.K H a xs) (h' : SqT X.K H a ys) : xs = ys := by
  obtain ⟨its, r, ⟨o, e, _, n, d⟩, _⟩ := I.tuple h
  obtain ⟨its', r', ⟨o', e', _, n', d'⟩, _⟩ := I.tuple h'
  rw [e] at e'; cases e'
  rw [d] at d'
  injection d' with d1 _
  have : its = its' := by simpa using congrArg Array.toList d1
  subst this
  exact r.inj r'
end
noncomputable abbrev Cx.wish (X : Cx) (E : Value → Shared → Prop) : Cx := { X with xe := E }
noncomputable abbrev Cx.nox (X : Cx) : Cx := X.wish fun _ _ => False
theorem Cx.Ok.wish {X : Cx} (ok : X.Ok) (E : Value → Shared → Prop) : (X.wish E).Ok :=
  ⟨ok.mod, ok.kind, ok.glob, ok.blt, ok.above, ok.inj, ok.has, ok.cab, ok.hd, ok.frames, ok.stk, ok.exf, ok.bs, ok.bsz, ok.noex, ok.exfs, ok.funs, ok.frf⟩
theorem Cx.Ok.unwish {X : Cx} {E : Value → Shared → Prop} (ok : (X.wish E).Ok) : X.Ok :=
  ⟨ok.mod, ok.kind, ok.glob, ok.blt, ok.above, ok.inj, ok.has, ok.cab, ok.hd, ok.frames, ok.stk, ok.exf, ok.bs, ok.bsz, ok.noex, ok.exfs, ok.funs, ok.frf⟩
section
variable {X : Cx} {pins : List (Addr × Obj)} {σ : St} {H : Hp} {s : Shared} {E : Value → Shared → Prop}
theorem Inv.wish (I : Inv X pins σ H s) (E : Value → Shared → Prop) : Inv (X.wish E) pins σ H s := ⟨I.ok.wish E, I.os, I.bare, I.base, I.loc, I.cell, I.free, I.freeC, I.pin, I.hok, I.len⟩
theorem Inv.unwish (I : Inv (X.wish E) pins σ H s) : Inv X pins σ H s := ⟨I.ok.unwish, I.os, I.bare, I.base, I.loc, I.cell, I.free, I.freeC, I.pin, I.hok, I.len⟩
theorem SP.unwish {D : Ends} {f : Flow} {s' : Shared} (h : SP (X.wish E) pins D f s') : SP X pins D f s' := by
  cases f with
  | next => obtain ⟨σ', H', I, q⟩ := h; exact ⟨σ', H', I.unwish, q⟩
  | brk => obtain ⟨σ', H', I, q⟩ := h; exact ⟨σ', H', I.unwish, q⟩
  | cont => obtain ⟨σ', H', I, q⟩ := h; exact ⟨σ', H', I.unwish, q⟩
  | ret u => obtain ⟨v, σ', H', I, r, q⟩ := h; exact ⟨v, σ', H', I.unwish, r, q⟩
theorem PE.nox {e : Expr} {t : TE} (h : PE X.nox e t) : PE X e t := fun pins s σ H Q I hw =>
  wpAny_mono (h pins s σ H Q (I.wish _) hw) (fun _ _ ⟨v, H', I', r, q⟩ => ⟨v, H', I'.unwish, r, q⟩) fun _ _ z => False.elim z
theorem PT.nox {e : Expr} {t : TT} (h : PT X.nox e t) : PT X e t := fun pins s σ H Q I hw =>
  wpAny_mono (h pins s σ H Q (I.wish _) hw) (fun _ _ ⟨H', I', q⟩ => ⟨H', I'.unwish, q⟩) fun _ _ z => False.elim z
theorem PSs.nox {st : List Stmt} {t : TS} (h : PSs X.nox st t) : PSs X st t := fun pins s σ H D I hw =>
  wpAny_mono (h pins s σ H D (I.wish _) hw) (fun _ _ q => q.unwish) fun _ _ z => False.elim z
end
section
variable {X : Cx} {st : Stmt} {rest : List Stmt} {t u : TS} {e : Expr} {te : TE} {pos : Pos}
theorem Inv.quiet {pins : List (Addr × Obj)} {σ : St} {H : Hp} {s : Shared} (I : Inv X pins σ H s) : interactive X.env = false := by simp [interactive, I.ok.kind]
noncomputable def tDrop (te : TE) : TS := fun D σ H => te σ H fun _ H1 => D.nx σ H1
theorem ps_expr (he : PE X e te) (hs : swapsWith e none pos.line X.env = pure false := by rfl) : PS X (.Expr e pos) (tDrop te) := by
  intro pins s σ H D I h
  exact wpAny_Expr_any (thn (he pins s σ H _ I h) fun v s1 ⟨x, H1, I1, r1, q1⟩ => ⟨σ, H1, I1, q1⟩) I.quiet hs
end
noncomputable abbrev TG := V → St → Hp → (St → Hp → Prop) → Prop
noncomputable abbrev TGs := List V → St → Hp → (St → Hp → Prop) → Prop
noncomputable def PG (X : Cx) (target : Expr) (t : TG) : Prop :=
  ∀ (pins : List (Addr × Obj)) (s : Shared) (σ : St) (H : Hp) (v : V) (u : Value) (Q : St → Hp → Prop), Inv X pins σ H s → RelV v u → t v σ H Q →
    wpAny (model X.prog X.w) X.A (assign target X.env u) (fun _ s' => ∃ σ' H', Inv X pins σ' H' s' ∧ Q σ' H') X.xe s
noncomputable def PGs (X : Cx) (ts : List Expr) (t : TGs) : Prop :=
  ∀ (pins : List (Addr × Obj)) (s : Shared) (σ : St) (H : Hp) (vs : List V) (us : List Value) (Q : St → Hp → Prop), Inv X pins σ H s → Vals vs us → t vs σ H Q →
    wpAny (model X.prog X.w) X.A (assignInOrder ((assignEach ts X.env).map (·.2)) us) (fun _ s' => ∃ σ' H', Inv X pins σ' H' s' ∧ Q σ' H') X.xe s
section
variable {X : Cx} {pos : Pos}
noncomputable def gName (i : Nat) : TG := fun v σ H Q => Q (σ.set i (some v)) H
theorem pg_name {i : Nat} {x : Str} (hN : X.N.Nodup) (hi : X.N[i]? = some x) (hx : Loc X.env.scope x) (hf : X.fn x = true ∨ X.env.scope.names.lookup x = some .local := by first | exact .inl rfl | exact .inr rfl | assumption) : PG X (.Name x pos) (gName i) := by
  intro pins s σ H v u Q I r h
  exact wpAny_assign_Name (store_ok I hN hi hx r (fun s' I' => ⟨_, H, I', h⟩) hf)
noncomputable def gNil : TGs := fun vs σ H Q => vs = [] ∧ Q σ H
noncomputable def gCons (t : TG) (u : TGs) : TGs := fun vs σ H Q => ∃ v r, vs = v :: r ∧ t v σ H fun σ' H' => u r σ' H' Q
theorem pgs_nil : PGs X [] gNil := by
  intro pins s σ H vs us Q I r h
  obtain ⟨e, h⟩ := h
  subst e
  cases r
  exact assignInOrder_nil ⟨σ, H, I, h⟩
theorem pgs_cons {e : Expr} {es : List Expr} {t : TG} {u : TGs} (h1 : PG X e t) (h2 : PGs X es u)
    (hs : (assignEach (e :: es) X.env).map (·.2) = assign e X.env :: (assignEach es X.env).map (·.2) := by rfl) : PGs X (e :: es) (gCons t u) := by
  intro pins s σ H vs us Q I r h
  obtain ⟨v, vr, e1, h⟩ := h
  subst e1
  cases r with
  | cons r rr =>
    rw [hs]
    refine assignInOrder_cons (thn (h1 pins s σ H _ _ _ I r h) fun _ s1 ⟨σ1, H1, I1, q1⟩ => ?_)
    exact h2 pins s1 σ1 H1 _ _ Q I1 rr q1
noncomputable def gTup (K : PySem.W.Frag) (n : Nat) (t : TGs) : TG := fun v σ H Q => ∃ a xs, v = .ref a ∧ SqT K H a xs ∧ xs.length = n ∧ t xs σ H Q
theorem pg_tup {es : List Expr} {k : Nat} {t : TGs} {n : Nat} (hc : X.calm = true) (h : PGs X es t)
    (hn : (assignEach es X.env).length = n := by rfl) (hst : (assignEach es X.env).findIdx? (·.1) = none := by rfl) : PG X (.Tuple es k pos) (gTup X.K n t) := by
  intro pins s σ H v u Q I r hw
  obtain ⟨a, xs, e1, hq, hl, hw⟩ := hw
  subst e1
  cases r
  obtain ⟨its, rv, ht, hz⟩ := I.tuple hq
  refine assign_Tuple_tuple (I.ok.hd hc) ht (by simp [hn, ← hl, rv.length]) hst fun h' hx => ?_
  have I1 : Inv X pins σ H { s with heap := h' } := I.kept (t' := s.toks) fun b o e => hx b o (Nat.ne_of_lt (Heap.lt_size e)) e
  exact h pins _ σ H xs _ Q I1 (by simpa using rv) hw
noncomputable def tAsg (te : TE) (g : TG) : TS := fun D σ H => te σ H fun x H1 => g x σ H1 D.nx
theorem ps_set {i : Nat} {x : Str} {e : Expr} {te : TE} {pos' : Pos} (hN : X.N.Nodup) (hi : X.N[i]? = some x) (hx : Loc X.env.scope x) (he : PE X e te) (hs : swapsWith e (some (.Name x pos')) pos.line X.env = pure false := by rfl) (hf : X.fn x = true ∨ X.env.scope.names.lookup x = some .local := by first | exact .inl rfl | exact .inr rfl | assumption) :
    PS X (.Assign [.Name x pos'] e pos) (tAsg te (gName i)) := by
  intro pins s σ H D I h
  refine wpAny_Assign_Name (thn (he pins s σ H _ I h) fun v s1 ⟨y, H1, I1, r1, q1⟩ => ?_) hs
  exact store_ok I1 hN hi hx r1 (fun s2 I2 => ⟨_, H1, I2, q1⟩) hf
end
structure It where
  go : Nat → Hp → Prop
  yld : Nat → Hp → V → Hp → Prop
  stop : Nat → Hp → Prop
noncomputable def FpOk (X : Cx) (pins : List (Addr × Obj)) (H : Hp) (b : Addr) : Prop :=
  H b = none ∧ b ≠ X.env.locals ∧ b ∉ X.fs ∧ (b ∈ X.ex ∨ X.s₀.heap.objs.size ≤ b) ∧ (∀ x c, X.env.cells.lookup x = some c → c ≠ b) ∧ ∀ p ∈ X.pn ++ pins, p.1 ≠ b
theorem Inv.fpOk {X : Cx} {pins : List (Addr × Obj)} {σ : St} {H H' : Hp} {s : Shared} {b : Addr} (I : Inv X pins σ H s) (hb : s.heap.objs.size ≤ b) (hn : H' b = none) : FpOk X pins H' b := by
  refine ⟨hn, Nat.ne_of_gt (Nat.lt_of_lt_of_le I.lt hb), I.nofs hb, .inr (Nat.le_trans I.sz hb), fun x c e z => ?_, fun p hp z => ?_⟩
  · obtain ⟨v, q⟩ := I.cell x c e
    exact absurd (Nat.lt_of_lt_of_le q.lt (by rw [z]; exact hb)) (Nat.lt_irrefl _)
  · exact absurd (Nat.lt_of_lt_of_le (Heap.lt_size (I.pin p hp).1) (by rw [z]; exact hb)) (Nat.lt_irrefl _)
structure Turn (P : Program) (w : World) (K : PySem.W.Frag) (tg : Expr) (J : It) (fp : List Addr) (it : Addr) (tn : Nat → Heap → Prop) : Prop where
  mem : it ∈ fp
  obj : ∀ i h, tn i h → ∀ b ∈ fp, ∃ o, h.get? b = some o ∧ ∀ v, o.data ≠ .cell v
  keep : ∀ i h h', tn i h → (∀ b ∈ fp, ∀ o, h.get? b = some o → h'.get? b = some o) → tn i h'
  item : ∀ (X : Cx), X.prog = P → X.w = w → X.K = K → X.calm = true → ∀ (i : Nat) (pins : List (Addr × Obj)) (s : Shared) (σ : St) (H : Hp) (E : Value → Shared → Prop), Inv X pins σ H s → (∀ b ∈ fp, FpOk X pins H b) → tn i s.heap → J.go i H →
    wpAny (model P w) X.A (pyNext (.ref it)) (fun r s1 => ∃ u, r = some u ∧
      wpAny (model P w) X.A (letOwnedTupleGo tg (.ref it) u) (fun _ s2 => ∃ x H', Inv X pins σ H' s2 ∧ RelV x u ∧ J.yld i H x H' ∧ tn (i + 1) s2.heap ∧ ∀ b ∈ fp, H' b = none) E s1) E s
  done : ∀ (X : Cx), X.prog = P → X.w = w → X.K = K → X.calm = true → ∀ (i : Nat) (pins : List (Addr × Obj)) (s : Shared) (σ : St) (H : Hp) (E : Value → Shared → Prop), Inv X pins σ H s → (∀ b ∈ fp, FpOk X pins H b) → tn i s.heap → J.stop i H →
    wpAny (model P w) X.A (pyNext (.ref it)) (fun r s1 => r = none ∧ Inv X pins σ H s1) E s
  self : ∀ (A : Around) (i : Nat) (s : Shared) (Q : Value → Shared → Prop) (E : Value → Shared → Prop), tn i s.heap → Q (.ref it) s → wpAny (model P w) A (pyIter (.ref it)) Q E s
noncomputable abbrev TI := St → Hp → (It → Hp → Prop) → Prop
noncomputable def PIE (X : Cx) (pins : List (Addr × Obj)) (σ : St) (tg : Expr) (R : It → Hp → Prop) (itv : Value) (s2 : Shared) : Prop :=
  ∃ (it : Addr) (fp : List Addr) (tn : Nat → Heap → Prop) (J : It) (H' : Hp), itv = .ref it ∧ Inv X pins σ H' s2 ∧ Turn X.prog X.w X.K tg J fp it tn ∧ tn 0 s2.heap ∧ (∀ b ∈ fp, FpOk X pins H' b) ∧ R J H'
noncomputable def PI (X : Cx) (tg iter : Expr) (wi : TI) : Prop :=
  ∀ (pins : List (Addr × Obj)) (s : Shared) (σ : St) (H : Hp) (R : It → Hp → Prop), Inv X pins σ H s → wi σ H R →
    wpAny (model X.prog X.w) X.A (eval iter X.env) (fun v s1 => wpAny (model X.prog X.w) X.A (pyIter v) (PIE X pins σ tg R) X.xe s1) X.xe s
theorem go_of {M : Model} {A : Around} {E : Value → Shared → Prop} {s : Shared} {tg : Expr} {it : Addr} {u : Value} {o : Obj} {n : String} {vs : Array Value} {Q : Unit → Shared → Prop} (ho : s.heap.get? it = some o) (hc : o.cls = .type n) (hd : o.data = .fields vs)
    (hn : ["enumerate", "zip", "dict_itemiterator", "dict_reverseitemiterator", "odict_iterator", "itertools.zip_longest", "itertools.pairwise"].contains n = false) (hQ : Q () s) : wpAny M A (letOwnedTupleGo tg (.ref it) u) Q E s := by
  unfold letOwnedTupleGo
  cases tg <;> first
    | exact wpAny_pure hQ
    | (cases u <;> first
        | exact wpAny_pure hQ
        | (refine wpAny_bind (wpAny_load ho ?_)
           rw [hc, hd]
           show wpAny M A (if (["enumerate", "zip", "dict_itemiterator", "dict_reverseitemiterator", "odict_iterator", "itertools.zip_longest", "itertools.pairwise"].contains n && vs[0]? == some (rawInt _)) = true then _ else _) Q E s
           rw [if_neg (by intro h; rw [hn, Bool.false_and] at h; cases h)]
           exact wpAny_pure hQ))
noncomputable def Itl (K : PySem.W.Frag) (a : Addr) : It :=
  ⟨fun i H => ∃ xs x, SqL K H a xs ∧ xs[i]? = some x, fun i H x H' => H' = H ∧ ∀ xs, SqL K H a xs → xs[i]? = some x, fun i H => ∃ xs, SqL K H a xs ∧ xs.length ≤ i⟩
noncomputable def Itt (K : PySem.W.Frag) (a : Addr) : It :=
  ⟨fun i H => ∃ xs x, SqT K H a xs ∧ xs[i]? = some x, fun i H x H' => H' = H ∧ ∀ xs, SqT K H a xs → xs[i]? = some x, fun i H => ∃ xs, SqT K H a xs ∧ xs.length ≤ i⟩
noncomputable def Itr (lo : Int) (n : Nat) : It := ⟨fun i _ => i < n, fun i H x H' => H' = H ∧ x = .int (lo + i), fun i _ => n ≤ i⟩
theorem turn_list {P : Program} {w : World} {K : PySem.W.Frag} {tg : Expr} (a it : Addr) : Turn P w K tg (Itl K a) [it] it (fun i h => h.IsListIter it a i) where
  mem := by simp
  obj := fun i h st b hb => by
    have e : b = it := by simpa using hb
    subst e
    obtain ⟨o, e, c, d⟩ := st
    exact ⟨o, e, fun v z => by rw [d] at z; cases z⟩
  keep := fun i h h' st k => st.at fun o e => k it (by simp) o e
  item := by
    intro X hP hw hK hc i pins s σ H E I hf st hg
    subst hP hw hK
    obtain ⟨xs, x, hq, hx⟩ := hg
    obtain ⟨its, rv, p, hz⟩ := I.list hq
    obtain ⟨u, hu, ru⟩ := rv.get hx
    obtain ⟨f0, f1, f2, f3, f4, f5⟩ := hf it (by simp)
    refine wpAny_pyNext_list_item st p.isList (x := u) (by simpa using hu) fun h' st' sb => ?_
    have I1 : Inv X pins σ H { s with heap := h' } := I.turned (t' := s.toks) (fun b o hb e => (sb.2 b hb).trans e) f0 f1 f3 f4 f5
    obtain ⟨o, e, c, d⟩ := id st'
    exact ⟨u, rfl, go_of (s := { s with heap := h' }) e c d (by decide) ⟨x, H, I1, ru, ⟨rfl, fun ys hy => by rw [I.list_inj hy hq]; exact hx⟩, st', fun b hb => (hf b hb).1⟩⟩
  done := by
    intro X hP hw hK hc i pins s σ H E I hf st hg
    subst hP hw hK
    obtain ⟨xs, hq, hx⟩ := hg
    obtain ⟨its, rv, p, hz⟩ := I.list hq
    obtain ⟨f0, f1, f2, f3, f4, f5⟩ := hf it (by simp)
    have hl := rv.length
    exact wpAny_pyNext_list_end (I.ok.hd hc) st p.isList (by simp; omega) fun h' eb => ⟨rfl, I.turned (t' := s.toks) (fun b o hb e => eb b o hb e) f0 f1 f3 f4 f5⟩
  self := fun _ _ _ _ _ st h => wpAny_pyIter_listiter st h
theorem turn_tuple {P : Program} {w : World} {K : PySem.W.Frag} {tg : Expr} (a it : Addr) : Turn P w K tg (Itt K a) [it] it (fun i h => h.IsTupleIter it a i) where
  mem := by simp
  obj := fun i h st b hb => by
    have e : b = it := by simpa using hb
    subst e
    obtain ⟨o, e, c, d⟩ := st
    exact ⟨o, e, fun v z => by rw [d] at z; cases z⟩
  keep := fun i h h' st k => st.at fun o e => k it (by simp) o e
  item := by
    intro X hP hw hK hc i pins s σ H E I hf st hg
    subst hP hw hK
    obtain ⟨xs, x, hq, hx⟩ := hg
    obtain ⟨its, rv, p, hz⟩ := I.tuple hq
    obtain ⟨u, hu, ru⟩ := rv.get hx
    obtain ⟨f0, f1, f2, f3, f4, f5⟩ := hf it (by simp)
    refine wpAny_pyNext_tuple_item st (show s.heap.IsTuple a its.toArray from p) (x := u) (by simpa using hu) fun h' st' sb => ?_
    have I1 : Inv X pins σ H { s with heap := h' } := I.turned (t' := s.toks) (fun b o hb e => (sb.2 b hb).trans e) f0 f1 f3 f4 f5
    obtain ⟨o, e, c, d⟩ := id st'
    exact ⟨u, rfl, go_of (s := { s with heap := h' }) e c d (by decide) ⟨x, H, I1, ru, ⟨rfl, fun ys hy => by rw [I.tuple_inj hy hq]; exact hx⟩, st', fun b hb => (hf b hb).1⟩⟩
  done := by
    intro X hP hw hK hc i pins s σ H E I hf st hg
    subst hP hw hK
    obtain ⟨xs, hq, hx⟩ := hg
    obtain ⟨its, rv, p, hz⟩ := I.tuple hq
    obtain ⟨f0, f1, f2, f3, f4, f5⟩ := hf it (by simp)
    have hl := rv.length
    exact wpAny_pyNext_tuple_end (I.ok.hd hc) st (show s.heap.IsTuple a its.toArray from p) (by simp; omega) fun h' eb => ⟨rfl, I.turned (t' := s.toks) (fun b o hb e => eb b o hb e) f0 f1 f3 f4 f5⟩
  self := fun _ _ _ _ _ st h => wpAny_pyIter_tupleiter st h
theorem turn_range {P : Program} {w : World} {K : PySem.W.Frag} {tg : Expr} (it : Addr) (lo : Int) (n : Nat) : Turn P w K tg (Itr lo n) [it] it (fun i h => IsRangeIter h it (lo + (i : Nat) * 1) ((n : Int) - (i : Nat)) 1) where
  mem := by simp
  obj := fun i h st b hb => by
    have e : b = it := by simpa using hb
    subst e
    exact ⟨_, st, fun v z => by
      have z' : Data.fields _ = Data.cell v := z
      cases z'⟩
  keep := fun i h h' st k => k it (by simp) _ st
  item := by
    intro X hP hw hK hc i pins s σ H E I hf st hg
    subst hP hw hK
    obtain ⟨f0, f1, f2, f3, f4, f5⟩ := hf it (by simp)
    have W := Walks.range (prog := X.prog) (w := X.w) (I.ok.hd hc) it lo 1 n
    refine W.item i s _ _ hg st fun v h' tk hv st' kk => ?_
    obtain ⟨t, rfl⟩ := hv
    have I1 : Inv X pins σ H { s with heap := h', toks := tk } := I.turned (fun b o hb e => kk b o (by simpa using hb) e) f0 f1 f3 f4 f5
    refine ⟨_, rfl, go_of (s := { s with heap := h', toks := tk }) (n := "range_iterator") st' rfl rfl (by decide) ⟨.int (lo + i), H, I1, ⟨t, ?_⟩, ⟨rfl, rfl⟩, st', fun b hb => (hf b hb).1⟩⟩
    rw [Int.mul_one]
  done := by
    intro X hP hw hK hc i pins s σ H E I hf st hg
    subst hP hw hK
    obtain ⟨f0, f1, f2, f3, f4, f5⟩ := hf it (by simp)
    exact wpAny_pyNext_range_end (I.ok.hd hc) st (by have : n ≤ i := hg; omega) fun h' eb => ⟨rfl, I.turned (t' := s.toks) (fun b o hb e => eb b o hb e) f0 f1 f3 f4 f5⟩
  self := fun _ _ _ _ _ st h => wpAny_pyIter_rangeiter st h
end L2
namespace L2
open PySem PySem.Spec PyProof.Rows
section
variable {X : Cx} {tg : Expr}
noncomputable def iList (K : PySem.W.Frag) (tl : TE) : TI := fun σ H R => tl σ H fun x H1 => ∃ a, x = .ref a ∧ (∃ xs, SqL K H1 a xs) ∧ R (Itl K a) H1
noncomputable def iTup (K : PySem.W.Frag) (tl : TE) : TI := fun σ H R => tl σ H fun x H1 => ∃ a, x = .ref a ∧ (∃ xs, SqT K H1 a xs) ∧ R (Itt K a) H1
theorem pi_list {l : Expr} {tl : TE} (hl : PE X l tl) : PI X tg l (iList X.K tl) := by
  intro pins s σ H R I h
  refine thn (hl pins s σ H _ I h) fun v s1 ⟨x, H1, I1, r1, q1⟩ => ?_
  obtain ⟨a, e, ⟨xs, hq⟩, q⟩ := q1
  subst e
  cases r1
  obtain ⟨its, rv, p, hz⟩ := I1.list hq
  refine wpAny_pyIter_list p.isList ?_
  refine ⟨s1.heap.objs.size, [s1.heap.objs.size], _, _, H1, rfl, I1.kept (t' := s1.toks) fun b o e => Heap.get?_push_of_some _ e, turn_list a _, ⟨_, Heap.get?_push_size _ rfl, rfl, rfl⟩, fun b hb => ?_, q⟩
  have e : b = s1.heap.objs.size := by simpa using hb
  subst e
  exact I1.fpOk (Nat.le_refl _) (I1.hok.fresh (Nat.le_refl _))
theorem pi_tup {l : Expr} {tl : TE} (hl : PE X l tl) : PI X tg l (iTup X.K tl) := by
  intro pins s σ H R I h
  refine thn (hl pins s σ H _ I h) fun v s1 ⟨x, H1, I1, r1, q1⟩ => ?_
  obtain ⟨a, e, ⟨xs, hq⟩, q⟩ := q1
  subst e
  cases r1
  obtain ⟨its, rv, p, hz⟩ := I1.tuple hq
  refine wpAny_pyIter_tuple (show s1.heap.IsTuple a its.toArray from p) ?_
  refine ⟨s1.heap.objs.size, [s1.heap.objs.size], _, _, H1, rfl, I1.kept (t' := s1.toks) fun b o e => Heap.get?_push_of_some _ e, turn_tuple a _, ⟨_, Heap.get?_push_size _ rfl, rfl, rfl⟩, fun b hb => ?_, q⟩
  have e : b = s1.heap.objs.size := by simpa using hb
  subst e
  exact I1.fpOk (Nat.le_refl _) (I1.hok.fresh (Nat.le_refl _))
theorem range_it {pins : List (Addr × Obj)} {σ : St} {H : Hp} {s : Shared} {R : It → Hp → Prop} {E : Value → Shared → Prop} {lo hi : Int} {t u v : Tok} {tk : Nat} (I : Inv X pins σ H s) (h1 : -(2 ^ 62) ≤ lo) (h2 : lo < 2 ^ 62) (h3 : -(2 ^ 62) ≤ hi) (h4 : hi < 2 ^ 62)
    (q : R (Itr lo (hi - lo).toNat) H) : wpAny (model X.prog X.w) X.A (pyIter (.ref s.heap.objs.size)) (PIE X pins σ tg R) E { s with heap := s.heap.push { cls := .type "range", data := .fields #[.int lo t, .int hi u, .int 1 v] }, toks := tk } := by
  refine wpAny_pyIter_range (IsRange.new ..) (small_one h1 h2 h3 h4) ?_
  have I1 : Inv X pins σ H { s with heap := s.heap.push { cls := .type "range", data := .fields #[.int lo t, .int hi u, .int 1 v] }, toks := tk } := I.kept fun b o e => Heap.get?_push_of_some _ e
  refine ⟨(s.heap.push { cls := .type "range", data := .fields #[.int lo t, .int hi u, .int 1 v] }).objs.size, [(s.heap.push { cls := .type "range", data := .fields #[.int lo t, .int hi u, .int 1 v] }).objs.size], _, _, H, rfl,
    I1.kept (t' := tk) fun b o e => Heap.get?_push_of_some _ e, turn_range _ lo (hi - lo).toNat, ?_, fun b hb => ?_, q⟩
  · have e1 : lo + ((0 : Nat) : Int) * 1 = lo := by simp
    have e2 : (((hi - lo).toNat : Nat) : Int) - ((0 : Nat) : Int) = Builtin.Range.rangeSize lo hi 1 := by rw [rangeSize_one]; split <;> omega
    show IsRangeIter _ _ (lo + ((0 : Nat) : Int) * 1) ((((hi - lo).toNat : Nat) : Int) - ((0 : Nat) : Int)) 1
    rw [e1, e2]
    exact Heap.get?_push_size _ rfl
  · have e : b = (s.heap.push { cls := .type "range", data := .fields #[.int lo t, .int hi u, .int 1 v] }).objs.size := by simpa using hb
    subst e
    exact I1.fpOk (Nat.le_refl _) (I1.hok.fresh (Nat.le_refl _))
noncomputable def iRng1 (ta : TA) : TI := fun σ H R => ta σ H fun vs H1 => ∃ j : Int, vs = [.int j] ∧ -(2 ^ 62) ≤ j ∧ j < 2 ^ 62 ∧ R (Itr 0 j.toNat) H1
theorem pi_range1 {a : Expr} {ta : TA} {p pos : Pos} (hg : Gl X "range") (hm : X.mg "range" = none) (ha : PA X [a] ta) (hs : starEach [a] X.env = [(false, eval a X.env)] := by rfl) : PI X tg (.Call (.Name "range" p) [a] [] pos) (iRng1 ta) := by
  intro pins s σ H R I h
  refine Call_ (ld_blt I hg hm boot_range (PyProof.Rows.callWith_type1 (thn (ha pos pins s σ H _ I h) fun us s1 ⟨vs, H1, I1, r1, q1⟩ => ?_) hs rfl))
  obtain ⟨j, e, q1, q2, q⟩ := q1
  subst e
  cases r1 with
  | cons r rr =>
    cases rr
    obtain ⟨t, rfl⟩ := r
    exact call_range_1 (range_it I1 (by omega) (by omega) q1 q2 (by simpa using q))
noncomputable def pinsAt (fp : List Addr) (h : Heap) : List (Addr × Obj) := fp.filterMap fun b => (h.get? b).map fun o => (b, o)
theorem mem_pinsAt {fp : List Addr} {h : Heap} {b : Addr} {o : Obj} (hb : b ∈ fp) (e : h.get? b = some o) : (b, o) ∈ pinsAt fp h := List.mem_filterMap.mpr ⟨b, hb, by rw [e]; rfl⟩
theorem of_pinsAt {fp : List Addr} {h : Heap} {p : Addr × Obj} (hp : p ∈ pinsAt fp h) : p.1 ∈ fp ∧ h.get? p.1 = some p.2 := by
  obtain ⟨b, hb, e⟩ := List.mem_filterMap.mp hp
  cases q : h.get? b with
  | none => rw [q] at e; cases e
  | some o =>
    rw [q] at e
    have e' : (b, o) = p := Option.some.inj e
    subst e'
    exact ⟨hb, q⟩
theorem Inv.pinned {pins : List (Addr × Obj)} {σ : St} {H : Hp} {s : Shared} {fp : List Addr} (I : Inv X pins σ H s) (hf : ∀ b ∈ fp, FpOk X pins H b) (ho : ∀ b ∈ fp, ∃ o, s.heap.get? b = some o ∧ ∀ v, o.data ≠ .cell v) : Inv X (pins ++ pinsAt fp s.heap) σ H s :=
  I.pins_of fun p hp => (List.mem_append.mp hp).elim (fun z => I.pin p (List.mem_append_right _ z)) fun z => by
    obtain ⟨hb, e⟩ := of_pinsAt z
    obtain ⟨f0, f1, f2, _⟩ := hf p.1 hb
    obtain ⟨o, e', d⟩ := ho p.1 hb
    rw [e] at e'; cases e'
    exact ⟨e, f0, f1, f2, d⟩
theorem Inv.unpinned {pins pl : List (Addr × Obj)} {σ : St} {H : Hp} {s : Shared} (I : Inv X (pins ++ pl) σ H s) : Inv X pins σ H s := I.pins_of fun p hp => I.pin p (List.mem_append_right _ (List.mem_append_left _ hp))
end
end L2
namespace L2
open PySem PySem.Spec PyProof.Rows
noncomputable abbrev R2 := V → V → Hp → VK → Prop
noncomputable def OpR (X : Cx) (f : Value → Value → Sem Value) (r : R2) : Prop :=
  ∀ (pins : List (Addr × Obj)) (s : Shared) (σ : St) (H : Hp) (x y : V) (v u : Value) (Q : VK), Inv X pins σ H s → RelV x v → RelV y u → r x y H Q →
    wpAny (model X.prog X.w) X.A (f v u) (EP X pins σ Q) X.xe s
noncomputable def UnR (X : Cx) (f : Value → Sem Value) (r : V → Hp → VK → Prop) : Prop :=
  ∀ (pins : List (Addr × Obj)) (s : Shared) (σ : St) (H : Hp) (x : V) (v : Value) (Q : VK), Inv X pins σ H s → RelV x v → r x H Q →
    wpAny (model X.prog X.w) X.A (f v) (EP X pins σ Q) X.xe s
noncomputable def CallR (X : Cx) (f : Value) (r : List V → Hp → VK → Prop) : Prop :=
  ∀ (pins : List (Addr × Obj)) (s : Shared) (σ : St) (H : Hp) (xs : List V) (us : List Value) (Q : VK), Inv X pins σ H s → Vals xs us → r xs H Q →
    wpAny (model X.prog X.w) X.A (call f us) (EP X pins σ Q) X.xe s
noncomputable def TruR (X : Cx) (r : V → Hp → (Bool → Hp → Prop) → Prop) : Prop :=
  ∀ (pins : List (Addr × Obj)) (s : Shared) (σ : St) (H : Hp) (x : V) (v : Value) (Q : Bool → Hp → Prop), Inv X pins σ H s → RelV x v → r x H Q →
    wpAny (model X.prog X.w) X.A (truthy v) (TP X pins σ Q) X.xe s
noncomputable def tOp (r : R2) (ta tb : TE) : TE := fun σ H Q => ta σ H fun x H1 => tb σ H1 fun y H2 => r x y H2 Q
noncomputable def tUn (r : V → Hp → VK → Prop) (ta : TE) : TE := fun σ H Q => ta σ H fun x H1 => r x H1 Q
noncomputable def rI (C : Int → Int → Prop) (g : Int → Int → V) : R2 := fun x y H Q => ∃ i j, x = .int i ∧ y = .int j ∧ C i j ∧ Q (g i j) H
noncomputable def rI0 (g : Int → Int → V) : R2 := fun x y H Q => ∃ i j, x = .int i ∧ y = .int j ∧ Q (g i j) H
noncomputable def rU (g : Int → V) : V → Hp → VK → Prop := fun x H Q => ∃ i, x = .int i ∧ Q (g i) H
section
variable {X : Cx} {a b c : Expr} {ta tb tc : TE} {pos : Pos}
theorem binT (ha : PE X a ta) (hb : PE X b tb) {pins : List (Addr × Obj)} {s : Shared} {σ : St} {H : Hp} {R : V → V → Hp → Prop} (I : Inv X pins σ H s)
    (h : ta σ H fun x H1 => tb σ H1 fun y H2 => R x y H2) {Q : Value → Shared → Prop} {f : Value → Value → Sem Value}
    (hf : ∀ v u s2 x y H2, Inv X pins σ H2 s2 → RelV x v → RelV y u → R x y H2 → wpAny (model X.prog X.w) X.A (f v u) Q X.xe s2) :
    wpAny (model X.prog X.w) X.A (eval a X.env) (fun v s₁ => wpAny (model X.prog X.w) X.A (eval b X.env) (fun u s₂ => wpAny (model X.prog X.w) X.A (f v u) Q X.xe s₂) X.xe s₁) X.xe s := by
  refine thn (ha pins s σ H _ I h) fun v s1 ⟨x, H1, I1, r1, q1⟩ => ?_
  refine thn (hb pins s1 σ H1 _ I1 q1) fun u s2 ⟨y, H2, I2, r2, q2⟩ => ?_
  exact hf v u s2 x y H2 I2 r1 r2 q2
theorem pe_op {op : Operator} {r : R2} (ho : OpR X (binaryOp op) r) (ha : PE X a ta) (hb : PE X b tb) : PE X (.BinOp a op b pos) (tOp r ta tb) := by
  intro pins s σ H Q I h
  exact wpAny_BinOp (binT ha hb I h fun v u s2 x y H2 I2 rx ry q => ho pins s2 σ H2 x y v u Q I2 rx ry q)
theorem pe_un {op : UnaryOp} {r : V → Hp → VK → Prop} (ho : UnR X (unaryOp op) r) (ha : PE X a ta) : PE X (.UnaryOp op a pos) (tUn r ta) := by
  intro pins s σ H Q I h
  exact UnaryOp_ (thn (ha pins s σ H _ I h) fun v s1 ⟨x, H1, I1, r1, q1⟩ => ho pins s1 σ H1 x v Q I1 r1 q1)
theorem opI {f : Value → Value → Sem Value} {C : Int → Int → Prop} {g : Int → Int → Int}
    (rule : ∀ (i j : Int) (t u : Tok) (s : Shared) (Q : Value → Shared → Prop) (E : Value → Shared → Prop), C i j → Q (.int (g i j) s.toks) { s with toks := s.toks + 1 } → wpAny (model X.prog X.w) X.A (f (.int i t) (.int j u)) Q E s) :
    OpR X f (rI C fun i j => .int (g i j)) := by
  intro pins s σ H x y v u Q I rx ry h
  obtain ⟨i, j, rfl, rfl, hc, q⟩ := h
  obtain ⟨t, rfl⟩ := rx
  obtain ⟨t', rfl⟩ := ry
  exact rule i j t t' s _ _ hc ⟨.int (g i j), H, I.tok _, ⟨_, rfl⟩, q⟩
theorem opI0 {f : Value → Value → Sem Value} {g : Int → Int → Int}
    (rule : ∀ (i j : Int) (t u : Tok) (s : Shared) (Q : Value → Shared → Prop) (E : Value → Shared → Prop), Q (.int (g i j) s.toks) { s with toks := s.toks + 1 } → wpAny (model X.prog X.w) X.A (f (.int i t) (.int j u)) Q E s) :
    OpR X f (rI0 fun i j => .int (g i j)) := by
  intro pins s σ H x y v u Q I rx ry h
  obtain ⟨i, j, rfl, rfl, q⟩ := h
  obtain ⟨t, rfl⟩ := rx
  obtain ⟨t', rfl⟩ := ry
  exact rule i j t t' s _ _ ⟨.int (g i j), H, I.tok _, ⟨_, rfl⟩, q⟩
theorem opB0 {f : Value → Value → Sem Value} {g : Int → Int → Bool}
    (rule : ∀ (i j : Int) (t u : Tok) (s : Shared) (Q : Value → Shared → Prop) (E : Value → Shared → Prop), Q (.bool (g i j)) s → wpAny (model X.prog X.w) X.A (f (.int i t) (.int j u)) Q E s) :
    OpR X f (rI0 fun i j => .bl (g i j)) := by
  intro pins s σ H x y v u Q I rx ry h
  obtain ⟨i, j, rfl, rfl, q⟩ := h
  obtain ⟨t, rfl⟩ := rx
  obtain ⟨t', rfl⟩ := ry
  exact rule i j t t' s _ _ ⟨.bl (g i j), H, I, rfl, q⟩
noncomputable def CDiv (i j : Int) : Prop := 0 < j ∧ j < 1073741824
noncomputable def CMul (i j : Int) : Prop := (-(2 ^ 64) < i ∧ i < 2 ^ 64) ∨ (-(2 ^ 64) < j ∧ j < 2 ^ 64)
theorem CMul.ok {i j : Int} (h : CMul i j) : IntMulOk i j := by
  rcases h with ⟨h1, h2⟩ | ⟨h1, h2⟩
  · exact .of_left (intBits_le_64 h1 h2)
  · exact .of_right (intBits_le_64 h1 h2)
theorem op_add : OpR X (binaryOp .Add) (rI0 fun i j => .int (i + j)) := opI0 fun _ _ _ _ _ _ _ q => add_int q
theorem op_sub : OpR X (binaryOp .Sub) (rI0 fun i j => .int (i - j)) := opI0 fun _ _ _ _ _ _ _ q => sub_int q
theorem op_mul : OpR X (binaryOp .Mult) (rI CMul fun i j => .int (i * j)) := opI fun _ _ _ _ _ _ _ hc q => mul_int q hc.ok
theorem op_fdiv : OpR X (binaryOp .FloorDiv) (rI CDiv fun i j => .int (i / j)) := opI fun i j _ _ _ _ _ hc q => by
  have h1 : (0 : Int) < j := hc.1
  have h2 : j < 1073741824 := hc.2
  exact floordiv_int (by omega) (by rw [Int.fdiv_eq_ediv_of_nonneg i (by omega)]; exact q) (.inl (PyProof.noPylong_small (by omega)))
theorem op_mod : OpR X (binaryOp .Mod) (rI (fun _ j => 0 < j) fun i j => .int (i % j)) := opI fun i j _ _ _ _ _ hc q => by
  have h1 : (0 : Int) < j := hc
  exact mod_int' (by omega) (by rw [Int.fmod_eq_emod_of_nonneg i (by omega)]; exact q)
theorem unI {f : Value → Sem Value} {g : Int → Int}
    (rule : ∀ (i : Int) (t : Tok) (s : Shared) (Q : Value → Shared → Prop) (E : Value → Shared → Prop), Q (.int (g i) s.toks) { s with toks := s.toks + 1 } → wpAny (model X.prog X.w) X.A (f (.int i t)) Q E s) :
    UnR X f (rU fun i => .int (g i)) := by
  intro pins s σ H x v Q I rx h
  obtain ⟨i, rfl, q⟩ := h
  obtain ⟨t, rfl⟩ := rx
  exact rule i t s _ _ ⟨.int (g i), H, I.tok _, ⟨_, rfl⟩, q⟩
theorem un_neg : UnR X (unaryOp .USub) (rU fun i => .int (-i)) := unI fun _ _ _ _ _ q => neg_int q
end
noncomputable def scal : V → V → Bool
  | .non, .non => true | .non, .int _ => true | .int _, .non => true | .non, .bl _ => true | .bl _, .non => true | .non, .str _ => true | .str _, .non => true
  | .int _, .int _ => true | .bl _, .bl _ => true | .str _, .str _ => true | .byt _, .byt _ => true
  | .int _, .str _ => true | .str _, .int _ => true | .bl _, .str _ => true | .str _, .bl _ => true
  | _, _ => false
noncomputable def rEq : R2 := fun x y H Q => scal x y = true ∧ Q (.bl (decide (x = y))) H
noncomputable def rNe : R2 := fun x y H Q => scal x y = true ∧ Q (.bl (!decide (x = y))) H
theorem dec_int {i j : Int} : decide (V.int i = V.int j) = (i == j) := by
  rw [Bool.eq_iff_iff]
  simp
theorem dec_bl {i j : Bool} : decide (V.bl i = V.bl j) = (i == j) := by
  rw [Bool.eq_iff_iff]
  simp
theorem dec_str {i j : Str} : decide (V.str i = V.str j) = (i == j) := by
  rw [Bool.eq_iff_iff]
  simp
theorem dec_byt {i j : Array UInt8} : decide (V.byt i = V.byt j) = (i.toList == j.toList) := by
  rw [Bool.eq_iff_iff]
  cases i
  cases j
  simp
section
variable {X : Cx} {a b c : Expr} {ta tb tc : TE} {pos : Pos}
theorem fin_bl {pins : List (Addr × Obj)} {σ : St} {H : Hp} {s : Shared} {Q : VK} {k k' : Bool} (I : Inv X pins σ H s) (q : Q (.bl k) H) (e : k = k') : EP X pins σ Q (.bool k') s := by
  subst e
  exact ⟨.bl k, H, I, rfl, q⟩
theorem op_eq : OpR X (compareOp .Eq) rEq := by
  intro pins s σ H x y v u Q I rx ry h
  obtain ⟨hs, q⟩ := h
  cases x with
  | non =>
    cases rx
    cases y with
    | non => cases ry; exact PySem.EqNone.eq_none_none (fin_bl I q (by simp))
    | bl j => cases ry; exact PySem.EqNone.eq_none_bool (fin_bl I q (by simp))
    | int j => obtain ⟨t', rfl⟩ := ry; exact PySem.EqNone.eq_none_int (fin_bl I q (by simp))
    | str j => obtain ⟨t', rfl⟩ := ry; exact PySem.EqNone.eq_none_str (fin_bl I q (by simp))
    | _ => exact absurd (show false = true from hs) Bool.false_ne_true
  | bl i =>
    cases rx
    cases y with
    | non => cases ry; exact PySem.EqNone.eq_bool_none (fin_bl I q (by simp))
    | bl j => cases ry; exact eq_bool (fin_bl I q dec_bl)
    | str j => obtain ⟨t', rfl⟩ := ry; exact PySem.EqMixed.eq_bool_str (fin_bl I q (by simp))
    | _ => exact absurd (show false = true from hs) Bool.false_ne_true
  | int i =>
    obtain ⟨t, rfl⟩ := rx
    cases y with
    | non => cases ry; exact PySem.EqNone.eq_int_none (fin_bl I q (by simp))
    | int j => obtain ⟨t', rfl⟩ := ry; exact eq_int (fin_bl I q dec_int)
    | str j => obtain ⟨t', rfl⟩ := ry; exact PySem.EqMixed.eq_int_str (fin_bl I q (by simp))
    | _ => exact absurd (show false = true from hs) Bool.false_ne_true
  | str i =>
    obtain ⟨t, rfl⟩ := rx
    cases y with
    | non => cases ry; exact PySem.EqNone.eq_str_none (fin_bl I q (by simp))
    | bl j => cases ry; exact PySem.EqMixed.eq_str_bool (fin_bl I q (by simp))
    | int j => obtain ⟨t', rfl⟩ := ry; exact PySem.EqMixed.eq_str_int (fin_bl I q (by simp))
    | str j => obtain ⟨t', rfl⟩ := ry; exact eq_str (fin_bl I q dec_str)
    | _ => exact absurd (show false = true from hs) Bool.false_ne_true
  | byt i =>
    obtain ⟨t, rfl⟩ := rx
    cases y with
    | byt j => obtain ⟨t', rfl⟩ := ry; exact PySem.W.eq_bytes (fin_bl I q dec_byt)
    | _ => exact absurd (show false = true from hs) Bool.false_ne_true
  | _ => cases y <;> exact absurd (show false = true from hs) Bool.false_ne_true
theorem op_ne : OpR X (compareOp .NotEq) rNe := by
  intro pins s σ H x y v u Q I rx ry h
  obtain ⟨hs, q⟩ := h
  cases x with
  | non =>
    cases rx
    cases y with
    | non => cases ry; exact PySem.EqNone.ne_none_none (fin_bl I q (by simp))
    | bl j => cases ry; exact PySem.EqNone.ne_none_bool (fin_bl I q (by simp))
    | int j => obtain ⟨t', rfl⟩ := ry; exact PySem.EqNone.ne_none_int (fin_bl I q (by simp))
    | str j => obtain ⟨t', rfl⟩ := ry; exact PySem.EqNone.ne_none_str (fin_bl I q (by simp))
    | _ => exact absurd (show false = true from hs) Bool.false_ne_true
  | bl i =>
    cases rx
    cases y with
    | non => cases ry; exact PySem.EqNone.ne_bool_none (fin_bl I q (by simp))
    | bl j => cases ry; exact ne_bool (fin_bl I q (congrArg not dec_bl))
    | str j => obtain ⟨t', rfl⟩ := ry; exact PySem.EqMixed.ne_bool_str (fin_bl I q (by simp))
    | _ => exact absurd (show false = true from hs) Bool.false_ne_true
  | int i =>
    obtain ⟨t, rfl⟩ := rx
    cases y with
    | non => cases ry; exact PySem.EqNone.ne_int_none (fin_bl I q (by simp))
    | int j => obtain ⟨t', rfl⟩ := ry; exact ne_int (fin_bl I q (congrArg not dec_int))
    | str j => obtain ⟨t', rfl⟩ := ry; exact PySem.EqMixed.ne_int_str (fin_bl I q (by simp))
    | _ => exact absurd (show false = true from hs) Bool.false_ne_true
  | str i =>
    obtain ⟨t, rfl⟩ := rx
    cases y with
    | non => cases ry; exact PySem.EqNone.ne_str_none (fin_bl I q (by simp))
    | bl j => cases ry; exact PySem.EqMixed.ne_str_bool (fin_bl I q (by simp))
    | int j => obtain ⟨t', rfl⟩ := ry; exact PySem.EqMixed.ne_str_int (fin_bl I q (by simp))
    | str j => obtain ⟨t', rfl⟩ := ry; exact ne_str (fin_bl I q (congrArg not dec_str))
    | _ => exact absurd (show false = true from hs) Bool.false_ne_true
  | byt i =>
    obtain ⟨t, rfl⟩ := rx
    cases y with
    | byt j => obtain ⟨t', rfl⟩ := ry; exact PySem.W.ne_bytes (fin_bl I q (congrArg not dec_byt))
    | _ => exact absurd (show false = true from hs) Bool.false_ne_true
  | _ => cases y <;> exact absurd (show false = true from hs) Bool.false_ne_true
theorem op_lt : OpR X (compareOp .Lt) (rI0 fun i j => .bl (decide (i < j))) := opB0 fun _ _ _ _ _ _ _ q => lt_int q
theorem op_le : OpR X (compareOp .LtE) (rI0 fun i j => .bl (decide (i ≤ j))) := opB0 fun _ _ _ _ _ _ _ q => le_int q
theorem op_gt : OpR X (compareOp .Gt) (rI0 fun i j => .bl (decide (j < i))) := opB0 fun _ _ _ _ _ _ _ q => gt_int q
theorem OpR.or {f : Value → Value → Sem Value} {r r' : R2} (h : OpR X f r) (h' : OpR X f r') : OpR X f (fun x y H Q => r x y H Q ∨ r' x y H Q) := by
  intro pins s σ H x y v u Q I rx ry q
  rcases q with q | q
  · exact h pins s σ H x y v u Q I rx ry q
  · exact h' pins s σ H x y v u Q I rx ry q
noncomputable def tTest (t : TE) : TT := fun σ H Q => t σ H fun x H' => ∃ k, x = .bl k ∧ Q k H'
noncomputable def tChain (r r' : R2) (ta tb tc : TE) : TE := fun σ H Q => ta σ H fun x H1 => tb σ H1 fun y H2 => r x y H2 fun z H3 => ∃ k, z = .bl k ∧
  (if k = true then tc σ H3 fun w' H4 => r' y w' H4 Q else Q (.bl false) H3)
theorem pe_chain {op op' : CmpOp} {r r' : R2} (ho : OpR X (compareOp op) r) (ho' : OpR X (compareOp op') r') (ha : PE X a ta) (hb : PE X b tb) (hc : PE X c tc)
    (hm : lastMarks [op, op'] [b, c] = false := by with_unfolding_all rfl) : PE X (.Compare a [op, op'] [b, c] pos) (tChain r r' ta tb tc) := by
  intro pins s σ H Q I h
  refine Compare_chain (thn (ha pins s σ H _ I h) fun v s1 ⟨x, H1, I1, r1, q1⟩ => chain_link (thn (hb pins s1 σ H1 _ I1 q1) fun u s2 ⟨y, H2, I2, r2, q2⟩ =>
    thn (ho pins s2 σ H2 x y v u _ I2 r1 r2 q2) fun d s3 ⟨z, H3, I3, r3, k, e, q3⟩ => ?_)) hm
  subst e
  cases r3
  refine wpAny_truthy_bool ?_
  cases k with
  | false => exact ite_ff ⟨.bl false, H3, I3, rfl, q3⟩
  | true => exact ite_tt (chain_last (thn (hc pins s3 σ H3 _ I3 q3) fun w' s4 ⟨z', H4, I4, r4, q4⟩ => ho' pins s4 σ H4 y z' u w' Q I4 r2 r4 q4))
theorem pt_chain {op op' : CmpOp} {r r' : R2} (ho : OpR X (compareOp op) r) (ho' : OpR X (compareOp op') r') (ha : PE X a ta) (hb : PE X b tb) (hc : PE X c tc)
    (hm : lastMarks [op, op'] [b, c] = false := by with_unfolding_all rfl) : PT X (.Compare a [op, op'] [b, c] pos) (tTest (tChain r r' ta tb tc)) := by
  intro pins s σ H Q I h
  refine isTrue_chain (thn (ha pins s σ H _ I h) fun v s1 ⟨x, H1, I1, r1, q1⟩ => test_link (thn (hb pins s1 σ H1 _ I1 q1) fun u s2 ⟨y, H2, I2, r2, q2⟩ =>
    thn (ho pins s2 σ H2 x y v u _ I2 r1 r2 q2) fun d s3 ⟨z, H3, I3, r3, k, e, q3⟩ => ?_)) hm
  subst e
  cases r3
  refine wpAny_truthy_bool ?_
  cases k with
  | false =>
    obtain ⟨k', e', q'⟩ := q3
    cases e'
    exact ite_ff ⟨H3, I3, q'⟩
  | true =>
    refine ite_tt (test_last (thn (hc pins s3 σ H3 _ I3 q3) fun w' s4 ⟨z', H4, I4, r4, q4⟩ => thn (ho' pins s4 σ H4 y z' u w' _ I4 r2 r4 q4) fun d' s5 ⟨z2, H5, I5, r5, k2, e2, q5⟩ => ?_))
    subst e2
    cases r5
    exact wpAny_truthy_bool ⟨H5, I5, q5⟩
noncomputable def TruV (K : PySem.W.Frag) (x : V) (H : Hp) (k : Bool) : Prop :=
  match x with
  | .non => k = false
  | .bl b => k = b
  | .int i => k = (i != 0)
  | .str y => y.length ≤ sizeLine ∧ k = ((y.length : Int) != 0)
  | .byt y => y.size ≤ sizeLine ∧ k = ((y.size : Int) != 0)
  | .ref p => (∃ xs, SqL K H p xs ∧ k = !xs.isEmpty) ∨ (∃ xs, SqT K H p xs ∧ k = !xs.isEmpty) ∨ ∃ kvs, H p = some (.dK kvs) ∧ k = !kvs.isEmpty
  | _ => False
theorem isEmpty_kv {κ : Type} {kvs : List (κ × V)} {vs : List (κ × Value)} (r : KV kvs vs) : (!vs.isEmpty) = !kvs.isEmpty := by
  cases r <;> rfl
theorem isEmpty_of {xs : List V} {its : List Value} (r : Vals xs its) : (!its.toArray.isEmpty) = !xs.isEmpty := by
  cases r <;> simp
theorem line63 : (sizeLine : Nat) < 2 ^ 63 := by rw [sizeLine_eq]; decide
theorem tru_ok : TruR X (fun x H Q => ∃ k, TruV X.K x H k ∧ Q k H) := by
  intro pins s σ H x v Q I rx h
  obtain ⟨k, e, q⟩ := h
  have hl := line63
  have hs : sizeLine = 16777216 := sizeLine_eq
  cases x with
  | non =>
    cases rx
    have e' : k = false := e
    subst e'
    exact truthy_none ⟨H, I, q⟩
  | bl b =>
    cases rx
    have e' : k = b := e
    subst e'
    exact wpAny_truthy_bool ⟨H, I, q⟩
  | int i =>
    obtain ⟨t, rfl⟩ := rx
    have e' : k = (i != 0) := e
    subst e'
    exact PySem.P.truthy_int ⟨H, I, q⟩
  | str y =>
    obtain ⟨t, rfl⟩ := rx
    obtain ⟨hy, e'⟩ : y.length ≤ sizeLine ∧ k = ((y.length : Int) != 0) := e
    subst e'
    exact PySem.P.truthy_str (by omega) ⟨H, I.tok _, q⟩
  | byt y =>
    obtain ⟨t, rfl⟩ := rx
    obtain ⟨hy, e'⟩ : y.size ≤ sizeLine ∧ k = ((y.size : Int) != 0) := e
    subst e'
    exact PySem.W.truthy_bytes (by omega) ⟨H, I.tok _, q⟩
  | ref p =>
    cases rx
    have e' : (∃ xs, SqL X.K H p xs ∧ k = !xs.isEmpty) ∨ (∃ xs, SqT X.K H p xs ∧ k = !xs.isEmpty) ∨ ∃ kvs, H p = some (.dK kvs) ∧ k = !kvs.isEmpty := e
    rcases e' with ⟨xs, hx, e'⟩ | ⟨xs, hx, e'⟩ | ⟨kvs, hx, e'⟩
    · subst e'
      obtain ⟨its, r, pl, hz⟩ := I.list hx
      have hlen := r.length
      exact wpAny_truthy_list pl.isList (by simp only [List.size_toArray]; omega) ⟨H, I.tok _, by rw [isEmpty_of r]; exact q⟩
    · subst e'
      obtain ⟨its, r, pl, hz⟩ := I.tuple hx
      have hlen := r.length
      exact truthy_tuple pl (by simp only [List.size_toArray]; omega) ⟨H, I.tok _, by rw [isEmpty_of r]; exact q⟩
    · subst e'
      obtain ⟨hz, hS, vs, r, m⟩ : kvs.length ≤ sizeLine ∧ (p == sysModules) = false ∧ ∃ vs, KV kvs vs ∧ s.heap.DictOf (mixKind X.prog X.w) p vs := I.hok p _ hx
      have hlen : kvs.length = vs.length := Paired.length r
      exact wpAny_truthy_dict hS m (by omega) ⟨H, I.tok _, by rw [isEmpty_kv r]; exact q⟩
  | _ => exact (show False from e).elim
theorem pt_truth (ha : PE X a ta) (he : ∀ whole, isTrue a X.env whole = (do let v ← whole; standAt a.pos; holding [v] (truthy v))) :
    PT X a (fun σ H Q => ta σ H fun x H' => ∃ k, TruV X.K x H' k ∧ Q k H') := by
  intro pins s σ H Q I h
  exact isTrue_plain (thn (ha pins s σ H _ I h) fun v s1 ⟨x, H1, I1, r1, q1⟩ => tru_ok pins s1 σ H1 x v Q I1 r1 q1) (he _)
theorem op_add_str : OpR X (binaryOp .Add) (fun x y H Q => ∃ i j, x = .str i ∧ y = .str j ∧ i.length + j.length ≤ sizeLine ∧ Q (.str (i ++ j)) H) := by
  intro pins s σ H x y v u Q I rx ry h
  obtain ⟨i, j, rfl, rfl, hz, q⟩ := h
  obtain ⟨t, rfl⟩ := rx
  obtain ⟨t', rfl⟩ := ry
  exact add_str (fun t' tk => ⟨.str (i ++ j), H, I.tok _, ⟨_, rfl⟩, q⟩) hz
theorem vals1 {x : V} {us : List Value} (r : Vals [x] us) : ∃ u, us = [u] ∧ RelV x u := by
  cases r with
  | cons r1 r2 => cases r2; exact ⟨_, rfl, r1⟩
theorem vals2 {x y : V} {us : List Value} (r : Vals [x, y] us) : ∃ u w', us = [u, w'] ∧ RelV x u ∧ RelV y w' := by
  cases r with
  | cons r1 r2 =>
    cases r2 with
    | cons r3 r4 => cases r4; exact ⟨_, _, rfl, r1, r3⟩
theorem call_max2 (hc : X.calm = true) : CallR X (.builtin "max") (fun xs H Q => ∃ i j, xs = [.int i, .int j] ∧ Q (.int (if j > i then j else i)) H) := by
  intro pins s σ H xs us Q I r h
  obtain ⟨i, j, rfl, q⟩ := h
  obtain ⟨u, w', rfl, ⟨t, rfl⟩, ⟨t', rfl⟩⟩ := vals2 r
  refine max_two_ints (I.ok.hd hc) fun h' tk k => ⟨_, H, I.kept k, ?_, q⟩
  by_cases hj : j > i
  · rw [if_pos hj, if_pos hj]; exact ⟨_, rfl⟩
  · rw [if_neg hj, if_neg hj]; exact ⟨_, rfl⟩
theorem call_min2 (hc : X.calm = true) : CallR X (.builtin "min") (fun xs H Q => ∃ i j, xs = [.int i, .int j] ∧ Q (.int (if j < i then j else i)) H) := by
  intro pins s σ H xs us Q I r h
  obtain ⟨i, j, rfl, q⟩ := h
  obtain ⟨u, w', rfl, ⟨t, rfl⟩, ⟨t', rfl⟩⟩ := vals2 r
  refine min_two_ints (I.ok.hd hc) fun h' tk k => ⟨_, H, I.kept k, ?_, q⟩
  by_cases hj : j < i
  · rw [if_pos hj, if_pos hj]; exact ⟨_, rfl⟩
  · rw [if_neg hj, if_neg hj]; exact ⟨_, rfl⟩
theorem call_int1 : CallR X (.type "int") (fun xs H Q => (∃ i, xs = [.int i] ∧ Q (.int i) H) ∨ ∃ k, xs = [.bl k] ∧ Q (.int (if k then 1 else 0)) H) := by
  intro pins s σ H xs us Q I r h
  rcases h with ⟨i, rfl, q⟩ | ⟨k, rfl, q⟩
  · obtain ⟨u, rfl, t, rfl⟩ := vals1 r
    exact call_int_int ⟨.int i, H, I, ⟨_, rfl⟩, q⟩
  · obtain ⟨u, rfl, r1⟩ := vals1 r
    cases r1
    exact call_int_bool ⟨.int (if k then 1 else 0), H, I.tok _, ⟨_, rfl⟩, q⟩
end
end L2
namespace L2
open PySem PySem.Spec PyProof.Rows
structure ObjM (h : Heap) (x dx C : Addr) (mA : Str → Option Value) : Prop where
  obj : h.get? x = some (PySem.W.instObj C dx)
  ns : h.Ns1 dx mA
  ne : dx ≠ x
theorem lookIn_ns {h : Heap} {dx : Addr} {mA : Str → Option Value} (n : h.Ns1 dx mA) : ∃ od, h.get? dx = some od ∧ ∀ name, PySem.W.lookIn name od = some (mA name) := by
  obtain ⟨o, es, ep, ho, hd, hk, _, hm⟩ := n
  refine ⟨o, ho, fun name => ?_⟩
  have e := hm name
  unfold nsFind findBy at e
  rw [← Array.find?_toList] at e
  unfold PySem.W.lookIn
  rw [hd]
  dsimp only
  split
  · rename_i y q
    rw [q] at e
    exact congrArg some e
  · rename_i q
    rw [q] at e
    have a : es.toList.any (·.refKey) = false := by
      rw [List.any_eq_false]
      intro y hy
      obtain ⟨z, t, hkey⟩ := hk y (Array.mem_toList_iff.mp hy)
      simp [DictEntry.refKey, hkey]
    have a' : ¬ es.toList.any (·.refKey) = true := by rw [a]; exact Bool.false_ne_true
    rw [if_neg a']
    exact congrArg some e
theorem ObjM.look {h : Heap} {x dx C : Addr} {mA : Str → Option Value} (I : ObjM h x dx C mA) : ∃ od, PySem.W.InstAt h x (PySem.W.instObj C dx) C (some od) ∧ ∀ name, PySem.W.lookIn name od = some (mA name) :=
  let ⟨od, ho, hl⟩ := lookIn_ns I.ns
  ⟨od, ⟨I.obj, rfl, rfl, ho⟩, hl⟩
section
variable {P : Program} {w : World} {H H' : Hp} {h h' : Heap} {a C dx : Addr} {fs fs' : List (Str × V)}
theorem ins_get (hok : HOk P w H h) (e : H a = some (.ins C dx fs)) : ∃ mA, ObjM h a dx C mA ∧ (∀ f, RelO (fs.lookup f) (mA f)) ∧ PySem.Within mA (fs.map (·.1)) ∧ fs.length ≤ 1000 ∧ H dx = some (.own a) := by
  obtain ⟨d, z, ne, ob, mA, n, r, q⟩ := (show ObjOk P w H h a (.ins C dx fs) from hok a _ e)
  exact ⟨mA, ⟨ob, n, ne⟩, r, q, z, d⟩
end
structure Cls (K : PySem.W.Frag) (C : Addr) : Prop where
  pg : PySem.W.plainGet K C Str.empty = true
  hd : PySem.W.hasDictIn K C = true
  po : PySem.W.plainOver K C = true
  sa : PySem.W.findIn K (.ref C) "__setattr__" = some (some (.builtin "object.__setattr__"))
theorem Cls.get {K : PySem.W.Frag} {C : Addr} (c : Cls K C) (f : Str) : PySem.W.plainGet K C f = true := c.pg
section
variable {X : Cx} {pins : List (Addr × Obj)} {σ : St} {H : Hp} {s : Shared} {a C dx : Addr} {fs : List (Str × V)} {f : Str} {v : V} {A : Around} {E : Value → Shared → Prop}
theorem Inv.made (I : Inv X pins σ H s) : Inv X pins σ (upd (upd H s.heap.objs.size (.own (s.heap.objs.size + 1))) (s.heap.objs.size + 1) (.ins C s.heap.objs.size []))
    { s with heap := (s.heap.push PySem.W.emptyDict).push (PySem.W.instObj C s.heap.objs.size) } := by
  have e1 : (s.heap.push PySem.W.emptyDict).get? s.heap.objs.size = some PySem.W.emptyDict := Heap.get?_push_size s.heap rfl
  have e2 : ((s.heap.push PySem.W.emptyDict).push (PySem.W.instObj C s.heap.objs.size)).get? (s.heap.objs.size + 1) = some (PySem.W.instObj C s.heap.objs.size) := by
    have := Heap.get?_push_size (s.heap.push PySem.W.emptyDict) (o := PySem.W.instObj C s.heap.objs.size) rfl
    rwa [Heap.size_push] at this
  have e3 : (s.heap.push PySem.W.emptyDict).Ns s.heap.objs.size (fun _ => none) := ⟨PySem.W.emptyDict, #[], _, e1, rfl, (fun e he => absurd he (by simp)), fun _ => rfl⟩
  have I1 := I.laid (a := s.heap.objs.size) (o := .own (s.heap.objs.size + 1)) (h' := s.heap.push PySem.W.emptyDict) (t' := s.toks) (fun b u q => Heap.get?_push_of_some _ q) (Nat.le_refl _) ⟨_, e1⟩
  refine I1.laid (a := s.heap.objs.size + 1) (o := .ins C s.heap.objs.size []) (t' := s.toks) (fun b u q => Heap.get?_push_of_some _ q) (Nat.le_of_eq (Heap.size_push _ _)) ?_
  have ne : s.heap.objs.size ≠ s.heap.objs.size + 1 := Nat.ne_of_lt (Nat.lt_succ_self _)
  refine ⟨by rw [upd_ne ne, upd_same], Nat.zero_le _, ne, e2, fun _ => none, (Heap.Ns1.of_empty e3).at fun o q => Heap.get?_push_of_some _ q, fun _ => True.intro, fun y hy => absurd rfl hy⟩
end
section
variable {X : Cx} {pins : List (Addr × Obj)} {σ : St} {H : Hp} {s : Shared} {A : Around} {E : Value → Shared → Prop} {Q : Value → Shared → Prop} {c : Value} {b : Bool}
inductive TyOf (K : PySem.W.Frag) (H : Hp) : V → Value → Prop where
  | non : TyOf K H .non (.type "NoneType")
  | bl (x : Bool) : TyOf K H (.bl x) (.type "bool")
  | int (i : Int) : TyOf K H (.int i) (.type "int")
  | str (x : Str) : TyOf K H (.str x) (.type "str")
  | flt (x : UInt64) : TyOf K H (.flt x) (.type "float")
  | lst {a : Addr} {xs : List V} (e : H a = some (.lst xs)) : TyOf K H (.ref a) (.type "list")
  | frz {a : Addr} {o : Obj} {xs : List V} (e : H a = some (.frz o (.lst xs))) : TyOf K H (.ref a) (.type "list")
  | tup {a : Addr} {xs : List V} (e : H a = some (.tup xs)) : TyOf K H (.ref a) (.type "tuple")
  | dK {a : Addr} {kvs : List (Key × V)} (e : H a = some (.dK kvs)) : TyOf K H (.ref a) (.type "dict")
  | dT {a : Addr} {kvs : List (List Key × V)} (e : H a = some (.dT kvs)) : TyOf K H (.ref a) (.type "dict")
  | ins {a C dx : Addr} {fs : List (Str × V)} (e : H a = some (.ins C dx fs)) (cl : Cls K C) (ha : PySem.W.findIn K (.ref C) "__class__" = some (some (.builtin "object.__class__")))
      (hn : PySem.W.specialIn K (.builtin "object.__class__") "__get__" = some (some (.builtin "getset_descriptor.__get__"))) (htk : PySem.W.takesIn K (.builtin "object.__class__") = some true)
      (hm : PySem.W.mroIn K C (.type "object") = some true) : TyOf K H (.ref a) (.ref C)
theorem isinst_ok {x : V} {u t : Value} (I : Inv X pins σ H s) (rx : RelV x u) (ty : TyOf X.K H x t) (e : PySem.W.kitOne X.K t c = some b) (h : ∀ tk, Q (.bool b) { s with toks := tk }) :
    wpAny (model X.prog X.w) A (call (.builtin "isinstance") [u, c]) Q E s := by
  cases ty with
  | non => cases (show u = Value.none from rx); exact PySem.W.kia_one PySem.W.kitx_none I.kIn True.intro e (fun z => nomatch z) h
  | bl y => cases (show u = Value.bool y from rx); exact PySem.W.kia_one PySem.W.kitx_bool I.kIn True.intro e (fun z => nomatch z) h
  | int i => obtain ⟨t, q⟩ := (show ∃ t, u = Value.int i t from rx); cases q; exact PySem.W.kia_one PySem.W.kitx_int I.kIn True.intro e (fun z => nomatch z) h
  | str y => obtain ⟨t, q⟩ := (show ∃ t, u = Value.str y t from rx); cases q; exact PySem.W.kia_one PySem.W.kitx_str I.kIn True.intro e (fun z => nomatch z) h
  | flt y => obtain ⟨t, q⟩ := (show ∃ t, u = Value.float y t from rx); cases q; exact PySem.W.kia_one PySem.W.kitx_float I.kIn True.intro e (fun z => nomatch z) h
  | @lst a xs ea =>
    cases (show u = Value.ref a from rx)
    obtain ⟨_, _, n, _, h1⟩ := (show ObjOk X.prog X.w H s.heap a (.lst xs) from I.hok a _ ea)
    exact PySem.W.kia_one PySem.W.kitx_list I.kIn ⟨_, h1, rfl⟩ e (fun z => nomatch z) h
  | @frz a ob xs ea =>
    cases (show u = Value.ref a from rx)
    obtain ⟨_, _, _, n, _, h1⟩ := (show ObjOk X.prog X.w H s.heap a (.frz ob (.lst xs)) from I.hok a _ ea)
    exact PySem.W.kia_one PySem.W.kitx_list I.kIn ⟨_, h1, rfl⟩ e (fun z => nomatch z) h
  | @tup a xs ea =>
    cases (show u = Value.ref a from rx)
    obtain ⟨_, _, _, p⟩ := (show ObjOk X.prog X.w H s.heap a (.tup xs) from I.hok a _ ea)
    obtain ⟨o, h1, h2, _⟩ := p
    exact PySem.W.kia_one PySem.W.kitx_tuple I.kIn ⟨o, h1, h2⟩ e (fun z => nomatch z) h
  | @dK a kvs ea =>
    cases (show u = Value.ref a from rx)
    obtain ⟨_, _, vs, _, p⟩ := (show ObjOk X.prog X.w H s.heap a (.dK kvs) from I.hok a _ ea)
    obtain ⟨o, es, ep, h1, h2, _⟩ := p
    exact PySem.W.kia_one PySem.W.kitx_dict I.kIn ⟨o, h1, h2.1⟩ e (fun z => nomatch z) h
  | @dT a kvs ea =>
    cases (show u = Value.ref a from rx)
    obtain ⟨_, _, xs, _, o, es, ep, h1, h2, _⟩ := (show ObjOk X.prog X.w H s.heap a (.dT kvs) from I.hok a _ ea)
    exact PySem.W.kia_one PySem.W.kitx_dict I.kIn ⟨o, h1, h2.1⟩ e (fun z => nomatch z) h
  | @ins a C dx fs ea cl ha hn htk hm =>
    cases (show u = Value.ref a from rx)
    obtain ⟨mA, O, _⟩ := ins_get I.hok ea
    obtain ⟨od, J, _⟩ := O.look
    exact PySem.W.kia_one (PySem.W.kitx_own (cl.get _) cl.hd ha hn htk hm) I.kIn J e (fun z => nomatch z) h
end
end L2
namespace L2
open PySem PySem.Spec PyProof.Rows
structure Room (k : Nat) (A : Around) : Prop where
  hd : A.handled = none
  dp : A.depth + 3 * k + 5 < recursionLimit
  un : A.units + 16 * k + 200 < cLine
theorem Room.mono {j k : Nat} {A : Around} (r : Room k A) (h : j ≤ k) : Room j A := ⟨r.hd, by have := r.dp; omega, by have := r.un; omega⟩
theorem Room.deeper {k : Nat} {A : Around} (r : Room (k + 1) A) (env : Env) : Room k (A.deeper env) :=
  ⟨r.hd, by have := r.dp; show A.depth + 1 + 3 * k + 5 < _; omega, by have := r.un; show A.units + 3 + 16 * k + 200 < _; omega⟩
theorem Room.in1 {k : Nat} {A : Around} (r : Room (k + 1) A) : Room k A.in1 :=
  ⟨r.hd, by have := r.dp; show A.depth + 3 * k + 5 < _; omega, by have := r.un; show A.units + 1 + 16 * k + 200 < _; omega⟩
theorem Room.depth {k : Nat} {A : Around} (r : Room k A) : A.depth < recursionLimit := by have := r.dp; omega
theorem Room.units {k : Nat} {A : Around} (r : Room k A) : A.units + 64 < cLine := by have := r.un; omega
noncomputable def tNil : TA := fun _ H Q => Q [] H
noncomputable def tCons (ta : TE) (tr : TA) : TA := fun σ H Q => ta σ H fun x H1 => tr σ H1 fun xs H2 => Q (x :: xs) H2
section
variable {X : Cx} {e : Expr} {es : List Expr} {te : TE} {t : TA} {pos : Pos}
theorem pa_nil : PA X [] tNil := fun _ _ _ _ H Q I h => Calls.spliced_nil ⟨[], H, I, .nil, h⟩
theorem pa_cons (ha : PE X e te) (hr : PA X es t) (hs : starEach (e :: es) X.env = (false, eval e X.env) :: starEach es X.env := by rfl) : PA X (e :: es) (tCons te t) := by
  intro pos pins s σ H Q I h
  rw [hs]
  show wpAny _ _ (spliced ((false, eval e X.env) :: backTo pos (starEach es X.env))) _ _ s
  refine Calls.spliced_cons (thn (ha pins s σ H _ I h) fun u s1 ⟨x, H1, I1, r1, q1⟩ => ?_)
  exact thn (hr pos pins s1 σ H1 _ I1 q1) fun us s2 ⟨xs, H2, I2, r2, q2⟩ => ⟨x :: xs, H2, I2, .cons r1 r2, q2⟩
noncomputable def tTup (t : TA) : TE := fun σ H Q => t σ H fun xs H1 => xs.length ≤ sizeLine ∧ ∀ p, H1 p = none → Q (.ref p) (upd H1 p (.tup xs))
noncomputable def tLst (t : TA) : TE := fun σ H Q => t σ H fun xs H1 => xs.length ≤ sizeLine ∧ ∀ p, H1 p = none → Q (.ref p) (upd H1 p (.lst xs))
theorem pe_tup {x1} (h : PA X es t) : PE X (.Tuple es x1 pos) (tTup t) := by
  intro pins s σ H Q I hq
  refine wpAny_Tuple_spliced (thn (h pos pins s σ H _ I hq) fun us s1 ⟨xs, H1, I1, r, z, q⟩ => ⟨by rw [← r.length]; exact z, ?_⟩)
  have hf : H1 s1.heap.objs.size = none := I1.hok.fresh (Nat.le_refl _)
  refine ⟨.ref s1.heap.objs.size, upd H1 s1.heap.objs.size (.tup xs), I1.laid (t' := s1.toks) (fun b u e => Heap.get?_push_of_some _ e) (Nat.le_refl _) ?_, rfl, q _ hf⟩
  exact ⟨z, us, r, ⟨_, Heap.get?_push_size _ rfl, rfl, _, rfl⟩⟩
theorem pe_lst (h : PA X es t) : PE X (.List es pos) (tLst t) := by
  intro pins s σ H Q I hq
  refine wpAny_List_spliced (thn (h pos pins s σ H _ I hq) fun us s1 ⟨xs, H1, I1, r, z, q⟩ => ⟨by rw [← r.length]; exact z, ?_⟩)
  have hf : H1 s1.heap.objs.size = none := I1.hok.fresh (Nat.le_refl _)
  refine ⟨.ref s1.heap.objs.size, upd H1 s1.heap.objs.size (.lst xs), I1.laid (t' := s1.toks) (fun b u e => Heap.get?_push_of_some _ e) (Nat.le_refl _) ?_, rfl, q _ hf⟩
  exact ⟨z, us, 0, r, Heap.get?_push_size _ rfl⟩
end
noncomputable abbrev Sp := List V → Hp → VK → XK → Prop
noncomputable abbrev CXT := List Env → Hp → Shared → XK → Value → Shared → Prop
structure Env0 (P : Program) (w : World) (K : PySem.W.Frag) (mg : Str → Option Value) (base : Heap) (A : Around) (outer : List Env) (s : Shared) (H : Hp) : Prop where
  frames : A.frames = some outer
  mod : Mod K mg base
  bs : ∀ b o, base.get? b = some o → s.heap.get? b = some o ∧ H b = none
  bsz : base.objs.size ≤ s.heap.objs.size
  funs : s.heap.FunFrames base outer
  frf : ∀ b ∈ frs outer, H b = none
  hok : HOk P w H s.heap
  bare : AllBare s.gens
noncomputable def CE (outer : List Env) (P : Program) (w : World) (H : Hp) (s : Shared) (Q : VK) (u : Value) (s' : Shared) : Prop :=
  ∃ v H', s'.os = s.os ∧ AllBare s'.gens ∧ Un (frs outer) [] H H' s.heap s'.heap ∧ HOk P w H' s'.heap ∧ RelV v u ∧ Q v H'
noncomputable def CR (CX : CXT) (outer : List Env) (P : Program) (w : World) (H : Hp) (s : Shared) (Q : VK) (E : XK) (r : Result) (s' : Shared) : Prop :=
  match r with
  | .ok (.ret u) => CE outer P w H s Q u s'
  | .ok _ => False
  | .error e => CX outer H s E e s'
structure FnOk (P : Program) (w : World) (K : PySem.W.Frag) (mg : Str → Option Value) (base : Heap) (CX : CXT) (k : Nat) (f : Addr) (fd : FuncData) (ps : List Str) (sp : Sp) : Prop where
  len : ∀ vs H Q E, sp vs H Q E → vs.length = ps.length
  run : ∀ (A : Around) (outer : List Env) (s : Shared) (H : Hp) (args : Args) (us : List Value) (vs : List V) (Q : VK) (E : XK), Room k A → Env0 P w K mg base A outer s H → BindsTo s fd args (ps.zip us) → Vals vs us → sp vs H Q E →
    codeAny (model P w) A (.call (.ref f) args) (CR CX outer P w H s Q E) s
theorem FnOk.mono {P : Program} {w : World} {K : PySem.W.Frag} {mg : Str → Option Value} {base : Heap} {CX : CXT} {j k : Nat} {f : Addr} {fd : FuncData} {ps : List Str} {sp : Sp} (F : FnOk P w K mg base CX j f fd ps sp) (h : j ≤ k) :
    FnOk P w K mg base CX k f fd ps sp := ⟨F.len, fun A outer s H args us vs Q E hr => F.run A outer s H args us vs Q E (hr.mono h)⟩
theorem FnOk.imp {P : Program} {w : World} {K : PySem.W.Frag} {mg : Str → Option Value} {base : Heap} {CX : CXT} {k : Nat} {f : Addr} {fd : FuncData} {ps : List Str} {sp sp' : Sp} (F : FnOk P w K mg base CX k f fd ps sp)
    (h : ∀ vs H Q E, sp' vs H Q E → sp vs H Q E) : FnOk P w K mg base CX k f fd ps sp' :=
  ⟨fun vs H Q E q => F.len vs H Q E (h _ _ _ _ q), fun A outer s H args us vs Q E hr he hb hv hs => F.run A outer s H args us vs Q E hr he hb hv (h _ _ _ _ hs)⟩
theorem Env0.in1 {P : Program} {w : World} {K : PySem.W.Frag} {mg : Str → Option Value} {base : Heap} {A : Around} {outer : List Env} {s : Shared} {H : Hp} (e : Env0 P w K mg base A outer s H) :
    Env0 P w K mg base A.in1 outer s H := ⟨e.frames, e.mod, e.bs, e.bsz, e.funs, e.frf, e.hok, e.bare⟩
section
variable {X : Cx} {pins : List (Addr × Obj)} {σ : St} {H : Hp} {s s' : Shared}
theorem Inv.env0 (I : Inv X pins σ H s) : Env0 X.prog X.w X.K X.mg X.base X.A X.stack s H :=
  ⟨I.ok.frames, I.ok.mod, I.bs, Nat.le_trans I.ok.bsz I.sz, I.stack, I.stkFree, I.hok, I.bare⟩
theorem Inv.after {Q : VK} {u : Value} (I : Inv X pins σ H s) (h : CE X.stack X.prog X.w H s Q u s') : EP X pins σ Q u s' := by
  obtain ⟨v, H', os, bare, un, hok, r, q⟩ := h
  obtain ⟨hh, g, d, t, os'⟩ := s'
  obtain rfl : os' = s.os := os
  exact ⟨v, H', I.call (h' := hh) (g' := g) (d' := d) (t' := t) (ch := []) un hok bare (fun b z => absurd z (by simp)), r, q⟩
end
noncomputable def tCall (sp : Sp) (dvs : List V) (E : XK) (t : TA) : TE := fun σ H Q => t σ H fun vs H1 => sp (vs ++ dvs) H1 Q E
noncomputable def Binds (K : PySem.W.Frag) (fd : FuncData) (ps : List Str) (ds : List Value) : Prop :=
  ∀ (s : Shared) (us : List Value), K.In s.heap → (us ++ ds).length = ps.length → BindsTo s fd ⟨us, []⟩ (ps.zip (us ++ ds))
theorem Binds.all {K : PySem.W.Frag} {fd : FuncData} {ps : List Str} (h : ∀ us : List Value, us.length = ps.length → bindArgs fd ⟨us, []⟩ = pure (ps.zip us)) : Binds K fd ps [] := fun s us _ hl => by
  rw [List.append_nil] at hl ⊢
  exact .of_eq (h us hl)
noncomputable def Passes (CX : CXT) (X : Cx) (E : XK) : Prop := ∀ (pins : List (Addr × Obj)) (σ : St) (H : Hp) (s : Shared) (e : Value) (s' : Shared), Inv X pins σ H s → CX X.stack H s E e s' → X.xe e s'
section
variable {X : Cx} {CX : CXT} {k : Nat} {f C : Addr} {fd : FuncData} {ps : List Str} {sp : Sp} {dvs : List V} {ds : List Value} {E : XK} {x m : Str} {p pos apos : Pos} {e o : Expr} {es : List Expr} {ta : TE} {t : TA}
theorem run_fn {pins : List (Addr × Obj)} {σ : St} {H : Hp} {s : Shared} {Q : VK} {us : List Value} {vs : List V} (F : FnOk X.prog X.w X.K X.mg X.base CX k f fd ps sp) (hr : Room k X.A) (hb : Binds X.K fd ps ds) (hd : Vals dvs ds) (hx : Passes CX X E)
    (I : Inv X pins σ H s) (r : Vals vs us) (h : sp (vs ++ dvs) H Q E) : wpAny (model X.prog X.w) X.A (call (.ref f) us) (EP X pins σ Q) X.xe s := by
  have r2 : Vals (vs ++ dvs) (us ++ ds) := r.append hd
  have hl : (us ++ ds).length = ps.length := by rw [← r2.length]; exact F.len _ _ _ _ h
  refine wpAny_call (codeAny_mono (F.run X.A X.stack s H ⟨us, []⟩ (us ++ ds) (vs ++ dvs) Q E hr I.env0 (hb s us I.kIn hl) r2 h) fun r s' hq => ?_)
  cases r with
  | error e => exact hx pins σ H s e s' I hq
  | ok fl =>
    cases fl with
    | ret u => exact I.after hq
    | next => exact False.elim hq
    | brk => exact False.elim hq
    | cont => exact False.elim hq
theorem pe_call (F : FnOk X.prog X.w X.K X.mg X.base CX k f fd ps sp) (hr : Room k X.A) (hg : Gl X x) (hm : X.mg x = some (.ref f)) (hk : PySem.W.keepIn X.K (.ref f) = true) (hb : Binds X.K fd ps ds) (hd : Vals dvs ds) (hx : Passes CX X E)
    (ha : PA X (e :: es) t) (hdb : (x == ("__debug__" : Str)) = false := by decide) (he : starEach (e :: es) X.env = (false, eval e X.env) :: starEach es X.env := by rfl) (hpl : (backTo pos (starEach es X.env)).any (·.1) = false := by rfl) :
    PE X (.Call (.Name x p) (e :: es) [] pos) (tCall sp dvs E t) := by
  intro pins s σ H Q I h
  refine wpAny_Call_Name_kw (ld_glob I hg hm ?_ hdb)
  refine PySem.W.callWith_K (h₀ := X.base) I.ok.mod.kin hk (thn (ha pos pins s σ H _ I h) fun us s1 ⟨vs, H1, I1, r, q⟩ => ⟨I1.kIn, ?_⟩) he hpl
  exact run_fn F hr hb hd hx I1 r q
end
structure FnScope (N P : List Str) (sc : Scope) : Prop where
  kind : sc.kind = .function
  co : sc.isCoroutine = false
  gen : sc.isGenerator = false
  nd : N.Nodup
  pre : N.take P.length = P
  par : ∀ x ∈ P, sc.names.lookup x = some .local ∨ sc.names.lookup x = some .cell
  nofree : ∀ y ∈ sc.names, y.2 ≠ .free
theorem bindL_out {kindOf : Str → Option NameKind} {x : Str} : ∀ {binds : List (Str × Value)} {m : Str → Option Value}, (∀ v, (x, v) ∉ binds) → bindL kindOf binds m x = m x
  | [], _, _ => rfl
  | (n, v) :: r, m, h => by
    unfold bindL
    rw [bindL_out fun w hw => h w (List.mem_cons_of_mem _ hw)]
    split
    · have : x ≠ n := by rintro rfl; exact h v List.mem_cons_self
      simp [this]
    · rfl
theorem bindC_out {kindOf : Str → Option NameKind} {x : Str} : ∀ {binds : List (Str × Value)} {m : Str → Option Value}, (∀ v, (x, v) ∉ binds) → bindC kindOf binds m x = m x
  | [], _, _ => rfl
  | (n, v) :: r, m, h => by
    unfold bindC
    rw [bindC_out fun w hw => h w (List.mem_cons_of_mem _ hw)]
    split
    · rfl
    · have : x ≠ n := by rintro rfl; exact h v List.mem_cons_self
      simp [this]
theorem bindL_get {kindOf : Str → Option NameKind} {x : Str} {v : Value} : ∀ {P : List Str} {vs : List Value} {i : Nat} {m : Str → Option Value}, P.Nodup → P[i]? = some x → vs[i]? = some v → kindOf x = some .local →
    bindL kindOf (P.zip vs) m x = some v
  | [], _, _, _, _, h, _, _ => by simp at h
  | _ :: _, [], _, _, _, _, h, _ => by simp at h
  | p :: P, w :: vs, 0, m, nd, h1, h2, hk => by
    simp at h1 h2; subst h1; subst h2
    show bindL kindOf ((p, w) :: P.zip vs) m p = _
    unfold bindL
    rw [bindL_out fun v hv => (List.nodup_cons.mp nd).1 (List.of_mem_zip hv).1, if_pos hk]
    simp
  | p :: P, w :: vs, i + 1, m, nd, h1, h2, hk => by
    show bindL kindOf ((p, w) :: P.zip vs) m x = _
    unfold bindL
    exact bindL_get (i := i) (List.nodup_cons.mp nd).2 (by simpa using h1) (by simpa using h2) hk
theorem bindC_get {kindOf : Str → Option NameKind} {x : Str} {v : Value} : ∀ {P : List Str} {vs : List Value} {i : Nat} {m : Str → Option Value}, P.Nodup → P[i]? = some x → vs[i]? = some v → kindOf x ≠ some .local →
    bindC kindOf (P.zip vs) m x = some v
  | [], _, _, _, _, h, _, _ => by simp at h
  | _ :: _, [], _, _, _, _, h, _ => by simp at h
  | p :: P, w :: vs, 0, m, nd, h1, h2, hk => by
    simp at h1 h2; subst h1; subst h2
    show bindC kindOf ((p, w) :: P.zip vs) m p = _
    unfold bindC
    rw [bindC_out fun v hv => (List.nodup_cons.mp nd).1 (List.of_mem_zip hv).1, if_neg hk]
    simp
  | p :: P, w :: vs, i + 1, m, nd, h1, h2, hk => by
    show bindC kindOf ((p, w) :: P.zip vs) m x = _
    unfold bindC
    exact bindC_get (i := i) (List.nodup_cons.mp nd).2 (by simpa using h1) (by simpa using h2) hk
noncomputable def start (N : List Str) (vs : List V) : St := vs.map some ++ List.replicate (N.length - vs.length) none
noncomputable def cxOf (CX : CXT) (P : Program) (w : World) (K : PySem.W.Frag) (mg : Str → Option Value) (base : Heap) (N : List Str) (qual : Str) (scope : Scope) (f : Addr) (cd : Value) (A : Around) (outer : List Env) (s : Shared) (H : Hp) (E : XK) : Cx where
  prog := P
  w := w
  K := K
  mg := mg
  base := base
  A := A.deeper (envOfC qual scope s.heap.objs.size f cd)
  N := N
  s₀ := s
  H₀ := H
  env := envOfC qual scope s.heap.objs.size f cd
  outer := outer
  stack := envOfC qual scope s.heap.objs.size f cd :: outer
  ex := []
  calm := true
  fn := fun _ => true
  pn := []
  xe := fun e s' => wpAny (model P w) (A.deeper (envOfC qual scope s.heap.objs.size f cd)) (leaving (envOfC qual scope s.heap.objs.size f cd) e) (fun _ s'' => CX outer H s E e s'') (fun e' s'' => CX outer H s E e' s'') s'
theorem cell_has {sc : Scope} {n : Nat} {x : Str} (h : sc.names.lookup x = some .cell) : ∃ c, (cellsFrom n sc.names []).lookup x = some c := by
  have q := PySem.W.cellsFrom_some sc.names n [] (.inl h)
  exact Option.isSome_iff_exists.mp q
theorem inv_start {CX : CXT} {P : Program} {w : World} {K : PySem.W.Frag} {mg : Str → Option Value} {base : Heap} {N ps : List Str} {qual : Str} {scope : Scope} {f : Addr} {cd : Value} {A : Around} {outer : List Env} {s s1 : Shared} {H : Hp} {E : XK} {us : List Value} {vs : List V}
    (S : FnScope N ps scope) (hd : A.handled = none) (e0 : Env0 P w K mg base A outer s H) (hl : vs.length = ps.length) (r : Vals vs us)
    (x : InCallC s s.heap.objs.size (bindL (envOfC qual scope s.heap.objs.size f cd).kindOf (ps.zip us) fun _ => none) (cellsFrom (s.heap.objs.size + 1) scope.names []) (bindC (envOfC qual scope s.heap.objs.size f cd).kindOf (ps.zip us) fun _ => none) s1) :
    Inv (cxOf CX P w K mg base N qual scope f cd A outer s H E) [] (start N vs) H s1 := by
  have hpl : ps.length ≤ N.length := by have := congrArg List.length S.pre; rw [List.length_take] at this; omega
  obtain ⟨h1, tk, rfl, hk⟩ := x.done
  have noA : ∀ b : Addr, b ∉ (cxOf CX P w K mg base N qual scope f cd A outer s H E).ex := fun b z => absurd (show b ∈ ([] : List Addr) from z) (by simp)
  refine ⟨⟨e0.mod, S.kind, rfl, rfl, Nat.le_refl _, fun y z c h1 h2 => ?_, fun y hy => ?_, fun y c _ h => ?_, fun _ => hd, Around.frames_deeper e0.frames, .inr ⟨rfl, rfl⟩, fun b z => absurd z (noA b), e0.bs, e0.bsz, fun b _ _ => noA b, fun b z => absurd z (noA b), e0.funs, e0.frf⟩,
    rfl, e0.bare, Un.kept hk, ⟨_, x.toInCall.ns, fun i y v h1 h2 h3 => ?_⟩, fun y c h => ⟨_, x.cell y c h⟩, e0.hok.fresh (Nat.le_refl _), fun y c h => ?_, fun p hp => absurd (show p ∈ ([] : List (Addr × Obj)) from hp) (by simp), e0.hok.kept hk, ?_⟩
  · exact name_of_addr x.apart (PySem.mem_of_lookup h1) (PySem.mem_of_lookup h2)
  · have hy : scope.names.lookup y = some .cell ∨ scope.names.lookup y = some .free := hy
    rcases hy with hy | hy
    · exact cell_has hy
    · exact absurd rfl (S.nofree _ (PySem.mem_of_lookup hy))
  · exact Nat.le_of_lt (x.above y c (PySem.mem_of_lookup h))
  · have hi : i < vs.length := by
      unfold start at h2
      by_cases hi : i < vs.length
      · exact hi
      · rw [List.getElem?_append_right (by simpa using hi)] at h2
        rw [List.getElem?_replicate] at h2
        split at h2 <;> cases h2
    have ha : vs[i]? = some v := by
      unfold start at h2
      rw [List.getElem?_append_left (by simpa using hi), List.getElem?_map] at h2
      cases e : vs[i]? with
      | none => rw [e] at h2; cases h2
      | some a => rw [e] at h2; cases h2; rfl
    obtain ⟨u, hu, rv⟩ := r.get ha
    have hp : ps[i]? = some y := by
      rw [← S.pre, List.getElem?_take_of_lt (by omega)]; exact h1
    have ndP : ps.Nodup := by rw [← S.pre]; exact S.nd.sublist (List.take_sublist _ _)
    refine ⟨u, rv, ?_⟩
    rcases S.par y (List.mem_of_getElem? hp) with k | k
    · exact .inl ⟨k, bindL_get ndP hp hu k⟩
    · obtain ⟨c, e⟩ := cell_has (n := s.heap.objs.size + 1) k
      refine .inr ⟨.inl k, c, e, ?_⟩
      have q := x.cell y c e
      rw [bindC_get ndP hp hu (by show scope.names.lookup y ≠ _; rw [k]; decide)] at q
      exact q
  · exact e0.hok.fresh (Nat.le_of_lt (x.above y c (PySem.mem_of_lookup h)))
  · unfold start
    show _ = N.length
    rw [List.length_append, List.length_map, List.length_replicate]
    omega
theorem fn_of {CX : CXT} {P : Program} {w : World} {K : PySem.W.Frag} {mg : Str → Option Value} {base : Heap} {k : Nat} {f : Addr} {name qual : Str} {params : Arguments} {body : List Stmt} {scope : Scope} {dV kV doc pm cdv ct oc : Value} {an od : Option Addr}
    {osl : Array (Option Value)} {N ps : List Str} {sp : Sp} (lk : K.lookup f = some ⟨oc, od, .func (PySem.W.fnOf name qual params body scope dV kV doc pm an cdv ct), osl⟩) (hcd : PySem.W.codeIn K cdv qual = true) (S : FnScope N ps scope)
    (len : ∀ vs H Q E, sp vs H Q E → vs.length = ps.length)
    (hbody : ∀ (A : Around) (outer : List Env) (s : Shared) (H : Hp) (vs : List V) (Q : VK) (E : XK), Room k (A.deeper (envOfC qual scope s.heap.objs.size f cdv)) → sp vs H Q E →
      ∃ t, PSs (cxOf CX P w K mg base N qual scope f cdv A outer s H E) body t ∧ t { nx := fun _ H' => Q .non H', rt := Q } (start N vs) H) :
    FnOk P w K mg base CX (k + 1) f (PySem.W.fnOf name qual params body scope dV kV doc pm an cdv ct) ps sp := by
  refine ⟨len, fun A outer s H args us vs Q E hr e0 hb r hsp => ?_⟩
  have hl := len _ _ _ _ hsp
  have KX : K.In s.heap := e0.mod.kin.keeps fun b o e => (e0.bs b o e).1
  have lim : s.heap.NoLimit := e0.mod.nolimit.keeps fun b o e => (e0.bs b o e).1
  have hkind : ∀ y ∈ ps.zip us, scope.names.lookup y.1 = some .local ∨ (scope.names.lookup y.1 = some .cell ∧ ((cellsFrom (s.heap.objs.size + 1) scope.names []).lookup y.1).isSome = true) := fun ⟨n, v⟩ hy => by
    rcases S.par n (List.of_mem_zip hy).1 with q | q
    · exact .inl q
    · exact .inr ⟨q, PySem.W.cellsFrom_some _ _ _ (.inl q)⟩
  refine codeAny_call_function hr.depth (KX _ _ lk) rfl S.co S.gen rfl (PySem.W.codeRec_of KX hcd) (hb _ _ _ _ ?_)
  refine wpAny_newFunctionEnv_cells S.kind hkind fun env he s1 x => ?_
  subst he
  refine ⟨lim.keeps x.toInCall.keep, codeAny_func ?_⟩
  obtain ⟨t, ht, hq⟩ := hbody A outer s H vs Q E (hr.deeper _) hsp
  have I : Inv (cxOf CX P w K mg base N qual scope f cdv A outer s H E) [] (start N vs) H s1 := inv_start S hr.hd e0 hl r x
  refine wpAny_mono (ht [] s1 (start N vs) H _ I hq) (fun fl s' hs => ?_) fun e s' hs => hs
  have fin : ∀ {σ' : St} {H' : Hp} {v : V} {u : Value}, Inv (cxOf CX P w K mg base N qual scope f cdv A outer s H E) [] σ' H' s' → RelV v u → Q v H' → CE outer P w H s Q u s' :=
    fun {σ' H' v u} J rv q => ⟨v, H', J.os, J.bare, J.base, J.hok, rv, q⟩
  cases fl with
  | ret u =>
    obtain ⟨v, σ', H', J, rv, q⟩ := hs
    exact fin J rv q
  | next =>
    obtain ⟨σ', H', J, q⟩ := hs
    exact fin (v := V.non) (u := Value.none) J rfl q
  | brk =>
    obtain ⟨_, _, _, q⟩ := hs
    exact False.elim q
  | cont =>
    obtain ⟨_, _, _, q⟩ := hs
    exact False.elim q
end L2
namespace L2
open PySem PySem.Spec PyProof.Rows
section
variable {X : Cx} {x : Str} {p pos : Pos} {e : Expr} {es : List Expr} {t : TA} {id T : String} {r : List V → Hp → VK → Prop}
noncomputable def tCB (r : List V → Hp → VK → Prop) (t : TA) : TE := fun σ H Q => t σ H fun vs H1 => r vs H1 Q
theorem pe_callB (hc : CallR X (.builtin id) r) (hg : Gl X x) (hm : X.mg x = none) (hv : bootBuiltins x = some (.builtin id)) (ha : PA X (e :: es) t) (hn : x ≠ "__name__" := by decide) (hdb : (x == ("__debug__" : Str)) = false := by decide)
    (he : starEach (e :: es) X.env = (false, eval e X.env) :: starEach es X.env := by rfl) (hpl : (backTo pos (starEach es X.env)).any (·.1) = false := by rfl) : PE X (.Call (.Name x p) (e :: es) [] pos) (tCB r t) := by
  intro pins s σ H Q I h
  refine wpAny_Call_Name_kw (ld_blt I hg hm hv ?_ hn hdb)
  exact PyProof.Rows.callWith_builtin1 (thn (ha pos pins s σ H _ I h) fun us s1 ⟨vs, H1, I1, r1, q1⟩ => hc pins s1 σ H1 vs us Q I1 r1 q1) he hpl
theorem pe_callTy (hc : CallR X (.type T) r) (hg : Gl X x) (hm : X.mg x = none) (hv : bootBuiltins x = some (.type T)) (ha : PA X (e :: es) t) (hn : x ≠ "__name__" := by decide) (hdb : (x == ("__debug__" : Str)) = false := by decide)
    (he : starEach (e :: es) X.env = (false, eval e X.env) :: starEach es X.env := by rfl) (hpl : (backTo pos (starEach es X.env)).any (·.1) = false := by rfl) : PE X (.Call (.Name x p) (e :: es) [] pos) (tCB r t) := by
  intro pins s σ H Q I h
  refine wpAny_Call_Name_kw (ld_blt I hg hm hv ?_ hn hdb)
  exact PyProof.Rows.callWith_type1 (thn (ha pos pins s σ H _ I h) fun us s1 ⟨vs, H1, I1, r1, q1⟩ => hc pins s1 σ H1 vs us Q I1 r1 q1) he hpl
end
end L2
namespace HT
open PySem PyProof.Rows
noncomputable def lexLt : List Int → List Int → Bool
  | [], [] => false
  | [], _ :: _ => true
  | _ :: _, [] => false
  | x :: xs, y :: ys => if x = y then lexLt xs ys else decide (x < y)
theorem lexLt_cons (x y : Int) (xs ys : List Int) : lexLt (x :: xs) (y :: ys) = if x = y then lexLt xs ys else decide (x < y) := rfl
section
variable {prog : Program} {w : World} {A : Around} {E : Value → Shared → Prop} {s : Shared}
noncomputable def sIx (n d : Nat) : Option Int → Nat
  | none => d
  | some v => if v < 0 then (v + (n : Int)).toNat else min v.toNat n
theorem sIx_none (n d : Nat) : sIx n d none = d := rfl
theorem sIx_nat (n d k : Nat) : sIx n d (some (k : Int)) = min k n := by
  show (if (k : Int) < 0 then ((k : Int) + (n : Int)).toNat else min (k : Int).toNat n) = min k n
  rw [if_neg (by omega), Int.toNat_natCast]
theorem sIx_le (n d : Nat) (hd : d ≤ n) (o : Option Int) : sIx n d o ≤ n := by
  cases o with
  | none => exact hd
  | some v =>
    show (if v < 0 then (v + (n : Int)).toNat else min v.toNat n) ≤ n
    by_cases hv : v < 0
    · rw [if_pos hv]; omega
    · rw [if_neg hv]; exact Nat.min_le_right _ _
theorem clip_eq (v : Int) (n d : Nat) : (if v < 0 then max (v + (n : Int)) 0 else min v (n : Int)) = ((sIx n d (some v) : Nat) : Int) := by
  show (if v < 0 then max (v + (n : Int)) 0 else min v (n : Int)) = (((if v < 0 then (v + (n : Int)).toNat else min v.toNat n) : Nat) : Int)
  by_cases hv : v < 0
  · simp only [if_pos hv]; omega
  · simp only [if_neg hv]; omega
theorem adjust_gen (lo hi : Option Int) (n : Nat) : Builtin.Slice.sliceAdjust lo hi 1 (n : Int) = (((sIx n 0 lo : Nat) : Int), ((sIx n n hi : Nat) : Int)) := by
  have h1 : ¬ ((1 : Int) < 0) := by omega
  unfold Builtin.Slice.sliceAdjust
  simp only [h1, if_false]
  refine Prod.ext ?_ ?_
  · cases lo with
    | none => rfl
    | some v => exact clip_eq v n 0
  · cases hi with
    | none => rfl
    | some v => exact clip_eq v n n
theorem places_gen (i j : Nat) : Builtin.Slice.slicePlaces (i : Int) (j : Int) 1 = j - i := by
  unfold Builtin.Slice.slicePlaces
  have h1 : (1 : Int) > 0 := by omega
  simp only [h1, if_true, Int.ediv_one]
  split <;> omega
theorem slicePart_ {v : Value} {o : Option Int} {Q : Option Int → Shared → Prop} (p : IsPart v o) (h : Q o s) : wpAny (model prog w) A (Builtin.Slice.slicePartIndex v) Q E s := by
  cases p with
  | none => exact slicePart_none h
  | int i t => exact slicePart_int h
theorem sliceApplied_gen {sl : Addr} {vl vu : Value} {lo hi : Option Int} {n : Nat} {Q : Int × Int × Nat → Shared → Prop} (hs : s.heap.IsSliceOf sl vl vu .none) (pl : IsPart vl lo) (pu : IsPart vu hi)
    (h : Q (((sIx n 0 lo : Nat) : Int), 1, sIx n n hi - sIx n 0 lo) s) : wpAny (model prog w) A (Builtin.Slice.sliceApplied (.ref sl) (pure (n : Int))) Q E s := by
  obtain ⟨os, hos, hcs, hds⟩ := id hs
  unfold Builtin.Slice.sliceApplied Builtin.Slice.sliceFields
  refine wpAny_bind (wpAny_bind (wpAny_field hos hds (x := vl) rfl (wpAny_bind (wpAny_field hos hds (x := vu) rfl (wpAny_bind (wpAny_field hos hds (x := .none) rfl (wpAny_pure ?_)))))))
  refine wpAny_bind (slicePart_none ?_)
  show wpAny _ _ (if ((1 : Int) == 0) = true then _ else _) _ _ s
  rw [if_neg (by decide)]
  refine wpAny_bind (slicePart_ pl (wpAny_bind (slicePart_ pu (wpAny_bind (wpAny_pure ?_)))))
  show wpAny _ _ (match Builtin.Slice.sliceAdjust lo hi 1 (n : Int) with | (lo, hi) => pure (lo, (1 : Int), Builtin.Slice.slicePlaces lo hi 1)) _ _ s
  rw [adjust_gen lo hi n]
  show wpAny _ _ (pure (((sIx n 0 lo : Nat) : Int), (1 : Int), Builtin.Slice.slicePlaces ((sIx n 0 lo : Nat) : Int) ((sIx n n hi : Nat) : Int) 1)) _ _ s
  rw [places_gen]
  exact wpAny_pure h
theorem pick_gen (xs : Array Value) (i k : Nat) : ((List.range k).filterMap fun (m : Nat) => xs[((i : Int) + (m : Int) * 1).toNat]?).toArray = ((xs.toList.drop i).take k).toArray := by
  have e : (fun (m : Nat) => xs[((i : Int) + (m : Int) * 1).toNat]?) = fun m => xs[i + m]? := by
    funext m
    have : ((i : Int) + (m : Int) * 1).toNat = i + m := by omega
    rw [this]
  rw [e]
  have := pick_run xs i k
  rw [List.filterMap_map] at this
  have e2 : ((fun x => xs[x]?) ∘ fun x => i + x) = fun m => xs[i + m]? := rfl
  rw [e2] at this
  rw [this]
theorem getItem_tuple_cut {t sl : Addr} {items : Array Value} {vl vu : Value} {lo hi : Option Int} {Q : Value → Shared → Prop} (ht : IsTup s.heap t items) (hs : s.heap.IsSliceOf sl vl vu .none) (pl : IsPart vl lo) (pu : IsPart vu hi)
    (hw : ¬ (sIx items.size 0 lo = 0 ∧ sIx items.size items.size hi = items.size))
    (h : Q (.ref s.heap.objs.size) { s with heap := s.heap.push { cls := .type "tuple", data := .seq ((items.toList.drop (sIx items.size 0 lo)).take (sIx items.size items.size hi - sIx items.size 0 lo)).toArray } })
    (hsz : items.size ≤ sizeLine) : wpAny (model prog w) A (getItem (.ref t) (.ref sl)) Q E s := by
  have htake : sizeOk (.seq ((items.toList.drop (sIx items.size 0 lo)).take (sIx items.size items.size hi - sIx items.size 0 lo)).toArray) := by
    show ((items.toList.drop (sIx items.size 0 lo)).take (sIx items.size items.size hi - sIx items.size 0 lo)).toArray.size ≤ sizeLine
    rw [List.size_toArray, List.length_take, List.length_drop, Array.length_toList]
    omega
  have hj : sIx items.size items.size hi ≤ items.size := sIx_le _ _ (Nat.le_refl _) hi
  obtain ⟨os, hos, hcs, hds⟩ := id hs
  have hTs : s.TypeIs (.ref sl) "slice" := ⟨os, hos, hcs⟩
  unfold getItem
  try with_reducible refine wpAny_holding ?_
  first | refine wpAny_bind (wpAny_pure ?_) | skip
  refine wpAny_bind (wpAny_sequenceKey ht.typeIs (by decide) ?_)
  refine wpAny_bind (wpAny_callSpecial?_slot (name := Str.ofString "__getitem__") ht.typeIs PyProof.Rows.slot_tuple_getitem
    (wpAny_call_entry PyProof.Rows.slot_tuple_getitem ht.typeIs entry_tuple_getitem ?_ (args_tuple_getitem _ _)))
  show wpAny _ _ (Builtin.Tuple.tupleItemsOf (.ref t) >>= _) _ _ s
  refine wpAny_bind (tupleItemsOf_ ht ?_)
  refine wpAny_bind (wpAny_typeOf hTs ?_)
  rw [if_pos (by decide)]
  refine wpAny_bind (sliceApplied_gen hs pl pu ?_)
  have hno : ¬ ((((sIx items.size 0 lo : Nat) : Int) == 0 && (1 : Int) == 1 && (sIx items.size items.size hi - sIx items.size 0 lo) == items.size) = true) := by
    intro q
    rw [Bool.and_eq_true, Bool.and_eq_true] at q
    have q1 : ((sIx items.size 0 lo : Nat) : Int) = 0 := eq_of_beq q.1.1
    have q2 : sIx items.size items.size hi - sIx items.size 0 lo = items.size := eq_of_beq q.2
    exact hw ⟨by omega, by omega⟩
  show wpAny _ _ (if (((sIx items.size 0 lo : Nat) : Int) == 0 && (1 : Int) == 1 && (sIx items.size items.size hi - sIx items.size 0 lo) == items.size) = true then _ else _) _ _ s
  rw [if_neg hno, pick_gen]
  first
    | exact wpAny_bind (m := Builtin.Tuple.tupleExact _) (wpAny_newObj_type (wpAny_pure ⟨_, rfl, wpAny_pure h⟩) htake)
    | exact wpAny_bind (m := Builtin.Tuple.tupleExact _) (wpAny_newObj_type (wpAny_bind (wpAny_pure (wpAny_pure ⟨_, rfl, wpAny_pure h⟩))) htake)
    | exact wpAny_bind (wpAny_bind (m := Builtin.Tuple.tupleExact _) (wpAny_newObj_type (wpAny_pure (wpAny_pure ⟨_, rfl, wpAny_pure h⟩)) htake))
    | exact wpAny_bind (wpAny_bind (m := Builtin.Tuple.tupleExact _) (wpAny_newObj_type (wpAny_pure ⟨_, rfl, wpAny_pure h⟩) htake))
end
end HT
namespace L2
open PySem PySem.Spec PyProof.Rows
noncomputable abbrev TO := St → Hp → (Option Int → Hp → Prop) → Prop
noncomputable def PO (X : Cx) (e : Option Expr) (t : TO) : Prop :=
  ∀ (pins : List (Addr × Obj)) (s : Shared) (σ : St) (H : Hp) (Q : Option Int → Hp → Prop), Inv X pins σ H s → t σ H Q →
    wpAny (model X.prog X.w) X.A (evalPart e X.env) (fun u s' => ∃ o H', Inv X pins σ H' s' ∧ IsPart u o ∧ Q o H') X.xe s
noncomputable def tNoPart : TO := fun _ H Q => Q none H
noncomputable def tPart (t : TE) : TO := fun σ H Q => t σ H fun x H1 => ∃ i, x = .int i ∧ Q (some i) H1
theorem intsAre_of {ns : List Int} : ∀ {us : List Value}, Vals (ns.map V.int) us → IntsAre us ns := by
  induction ns with
  | nil => intro us r; rw [List.map_nil] at r; cases r; exact .nil
  | cons n ns ih =>
    intro us r
    rw [List.map_cons] at r
    cases r with
    | cons r1 r2 =>
      obtain ⟨t, e⟩ := r1
      subst e
      exact .cons n t (ih r2)
section
variable {X : Cx} {e : Expr} {te : TE} {lo hi : Option Expr} {tl th : TO} {pos p2 : Pos}
theorem po_none : PO X none tNoPart := by
  intro pins s σ H Q I h
  rw [evalPart_none]
  exact wpAny_pure ⟨none, H, I, .none, h⟩
theorem po_some (h : PE X e te) : PO X (some e) (tPart te) := by
  intro pins s σ H Q I hw
  rw [evalPart_some]
  refine thn (h pins s σ H _ I hw) fun u s1 ⟨x, H1, I1, r1, q1⟩ => ?_
  obtain ⟨i, rfl, q⟩ := q1
  obtain ⟨t, rfl⟩ := r1
  exact ⟨some i, H1, I1, .int i t, q⟩
noncomputable def SlR (X : Cx) (r : V → Option Int → Option Int → Hp → VK → Prop) : Prop :=
  ∀ (pins : List (Addr × Obj)) (s : Shared) (σ : St) (H : Hp) (x : V) (v vl vu : Value) (lo hi : Option Int) (sl : Addr) (Q : VK), Inv X pins σ H s → RelV x v → s.heap.IsSliceOf sl vl vu .none → IsPart vl lo → IsPart vu hi → r x lo hi H Q →
    ∃ T id, typeLookup (.type T) "__getitem__" = pure (some (.builtin id)) ∧ s.TypeIs v T ∧ wpAny (model X.prog X.w) X.A (getItem v (.ref sl)) (EP X pins σ Q) X.xe s
theorem SlR.or {r r' : V → Option Int → Option Int → Hp → VK → Prop} (h : SlR X r) (h' : SlR X r') : SlR X (fun x lo hi H Q => r x lo hi H Q ∨ r' x lo hi H Q) := by
  intro pins s σ H x v vl vu lo hi sl Q I rx hs pl pu q
  rcases q with q | q
  · exact h pins s σ H x v vl vu lo hi sl Q I rx hs pl pu q
  · exact h' pins s σ H x v vl vu lo hi sl Q I rx hs pl pu q
noncomputable def tSl (r : V → Option Int → Option Int → Hp → VK → Prop) (te : TE) (tl th : TO) : TE := fun σ H Q => te σ H fun x H1 => tl σ H1 fun l H2 => th σ H2 fun u H3 => r x l u H3 Q
theorem pe_slice {r : V → Option Int → Option Int → Hp → VK → Prop} (hr : SlR X r) (he : PE X e te) (hl : PO X lo tl) (hu : PO X hi th) : PE X (.Subscript e (.Slice lo hi none p2) pos) (tSl r te tl th) := by
  intro pins s σ H Q I h
  refine Subscript_ (thn (he pins s σ H _ I h) fun v s1 ⟨x, H1, I1, r1, q1⟩ => ?_)
  refine wpAny_Slice (thn (hl pins s1 σ H1 _ I1 q1) fun vl s2 ⟨l, H2, I2, pl, q2⟩ => thn (hu pins s2 σ H2 _ I2 q2) fun vu s3 ⟨u, H3, I3, pu, q3⟩ => ?_)
  rw [evalPart_none]
  refine wpAny_pure ?_
  have I4 : Inv X pins σ H3 { s3 with heap := s3.heap.push { cls := .type "slice", data := .fields #[vl, vu, .none] } } := I3.kept (t' := s3.toks) fun b ob q => Heap.get?_push_of_some _ q
  obtain ⟨T, id, hT, ht, hg⟩ := hr pins { s3 with heap := s3.heap.push { cls := .type "slice", data := .fields #[vl, vu, .none] } } σ H3 x v vl vu l u s3.heap.objs.size Q I4 r1 (Heap.IsSliceOf.new ..) pl pu q3
  show wpAny (model X.prog X.w) X.A (subscriptTail e (.Slice lo hi none p2) v (.ref s3.heap.objs.size)) (EP X pins σ Q) X.xe { s3 with heap := s3.heap.push { cls := .type "slice", data := .fields #[vl, vu, .none] } }
  exact tail_any (ops := [.ref s3.heap.objs.size, v]) ht hT hg (by with_unfolding_all rfl)
noncomputable def cutV (xs : List V) (lo hi : Option Int) : List V := (xs.drop (HT.sIx xs.length 0 lo)).take (HT.sIx xs.length xs.length hi - HT.sIx xs.length 0 lo)
theorem cutV_length (xs : List V) (lo hi : Option Int) : (cutV xs lo hi).length ≤ xs.length := by
  unfold cutV
  rw [List.length_take, List.length_drop]
  omega
noncomputable def rSlT (K : PySem.W.Frag) : V → Option Int → Option Int → Hp → VK → Prop := fun x lo hi H Q => ∃ a xs, x = .ref a ∧ SqT K H a xs ∧
  ¬ (HT.sIx xs.length 0 lo = 0 ∧ HT.sIx xs.length xs.length hi = xs.length) ∧ ∀ p, H p = none → Q (.ref p) (upd H p (.tup (cutV xs lo hi)))
theorem sl_tup : SlR X (rSlT X.K) := by
  intro pins s σ H x v vl vu lo hi sl Q I rx hs pl pu h
  obtain ⟨a, xs, rfl, hx, hw, q⟩ := h
  cases rx
  obtain ⟨its, r, ht, hz⟩ := I.tuple hx
  have hlen : its.toArray.size = xs.length := by rw [List.size_toArray]; exact r.length.symm
  refine ⟨"tuple", _, PyProof.Rows.slot_tuple_getitem.lookup, ht.typeIs, ?_⟩
  refine HT.getItem_tuple_cut ht hs pl pu (by rw [hlen]; exact hw) ?_ (by rw [hlen]; exact hz)
  rw [hlen]
  refine ⟨.ref s.heap.objs.size, _, I.laid (t' := s.toks) (o := .tup (cutV xs lo hi)) (fun b ob q => Heap.get?_push_of_some _ q) (Nat.le_refl _) ?_, rfl, q _ (I.hok.fresh (Nat.le_refl _))⟩
  exact ⟨Nat.le_trans (cutV_length xs lo hi) hz, _, (r.drop (HT.sIx xs.length 0 lo)).take (HT.sIx xs.length xs.length hi - HT.sIx xs.length 0 lo), IsTup.new _ _⟩
end
end L2
namespace L2
open PySem PySem.Spec PyProof.Rows
noncomputable def ixN (n : Nat) (i : Int) : Option Nat := if 0 ≤ i then (if i < n then some i.toNat else none) else if -(n : Int) ≤ i then some (i + n).toNat else none
noncomputable def atI {α : Type} (xs : List α) (i : Int) : Option α := (ixN xs.length i).bind fun j => xs[j]?
theorem ixN_seq {n : Nat} {i : Int} {j : Nat} (h : ixN n i = some j) : seqIndex? i n = some j ∧ j < n ∧ -(n : Int) ≤ i ∧ i < n := by
  unfold ixN at h
  by_cases h0 : 0 ≤ i
  · rw [if_pos h0] at h
    by_cases h1 : i < n
    · rw [if_pos h1] at h
      have e : i.toNat = j := Option.some.inj h
      exact ⟨by rw [seqIndex_of h0 h1, e], by omega, by omega, h1⟩
    · rw [if_neg h1] at h; cases h
  · rw [if_neg h0] at h
    by_cases h1 : -(n : Int) ≤ i
    · rw [if_pos h1] at h
      have e : (i + n).toNat = j := Option.some.inj h
      exact ⟨by rw [seqIndex_neg (by omega) h1, e], by omega, h1, by omega⟩
    · rw [if_neg h1] at h; cases h
theorem atI_get {α : Type} {xs : List α} {i : Int} {v : α} (h : atI xs i = some v) : ∃ j, seqIndex? i xs.length = some j ∧ xs[j]? = some v ∧ j < xs.length ∧ -(xs.length : Int) ≤ i ∧ i < xs.length := by
  unfold atI at h
  cases e : ixN xs.length i with
  | none => rw [e] at h; cases h
  | some j =>
    rw [e] at h
    obtain ⟨h1, h2, h3, h4⟩ := ixN_seq e
    exact ⟨j, h1, h, h2, h3, h4⟩
theorem atI_nat {α : Type} {xs : List α} {j : Nat} {v : α} (h : xs[j]? = some v) : atI xs (j : Int) = some v := by
  have hj : j < xs.length := (List.getElem?_eq_some_iff.mp h).1
  have e : ixN xs.length (j : Int) = some j := by
    unfold ixN
    rw [if_pos (by omega), if_pos (by omega)]; simp
  unfold atI; rw [e]; exact h
noncomputable def PlainIx (b : Expr) : Prop := ∀ o i, subscripted b false o i = operate [o, i] (getItem o i)
noncomputable def IxR (X : Cx) (r : R2) : Prop :=
  ∀ (value slice : Expr) (pins : List (Addr × Obj)) (s : Shared) (σ : St) (H : Hp) (x y : V) (v u : Value) (Q : VK), Inv X pins σ H s → RelV x v → RelV y u → r x y H Q →
    subscripted slice false v u = operate [v, u] (getItem v u) → wpAny (model X.prog X.w) X.A (subscriptTail value slice v u) (EP X pins σ Q) X.xe s
noncomputable def MtR (X : Cx) (id : String) (r : V → List V → Hp → VK → Prop) : Prop :=
  ∀ (pins : List (Addr × Obj)) (s : Shared) (σ : St) (H : Hp) (x : V) (xs : List V) (v : Value) (us : List Value) (Q : VK), Inv X pins σ H s → RelV x v → Vals xs us → r x xs H Q →
    wpAny (model X.prog X.w) X.A (call (.builtin id) (v :: us)) (EP X pins σ Q) X.xe s
section
variable {X : Cx} {a b : Expr} {ta tb : TE} {pos : Pos}
theorem IxR.or {r r' : R2} (h : IxR X r) (h' : IxR X r') : IxR X (fun x y H Q => r x y H Q ∨ r' x y H Q) := by
  intro value slice pins s σ H x y v u Q I rx ry q hs
  rcases q with q | q
  · exact h value slice pins s σ H x y v u Q I rx ry q hs
  · exact h' value slice pins s σ H x y v u Q I rx ry q hs
theorem MtR.or {id : String} {r r' : V → List V → Hp → VK → Prop} (h : MtR X id r) (h' : MtR X id r') : MtR X id (fun x xs H Q => r x xs H Q ∨ r' x xs H Q) := by
  intro pins s σ H x xs v us Q I rx rs q
  rcases q with q | q
  · exact h pins s σ H x xs v us Q I rx rs q
  · exact h' pins s σ H x xs v us Q I rx rs q
theorem pe_ix {r : R2} (hr : IxR X r) (ha : PE X a ta) (hb : PE X b tb) (hs : PlainIx b) : PE X (.Subscript a b pos) (tOp r ta tb) := by
  intro pins s σ H Q I h
  exact Subscript_ (binT ha hb I h fun v u s2 x y H2 I2 rx ry q => hr a b pins s2 σ H2 x y v u Q I2 rx ry q (hs _ _))
noncomputable def rIxL (K : PySem.W.Frag) : R2 := fun x y H Q => ∃ p xs i v, x = .ref p ∧ y = .int i ∧ SqL K H p xs ∧ atI xs i = some v ∧ Q v H
noncomputable def rIxT (K : PySem.W.Frag) : R2 := fun x y H Q => ∃ p xs i v, x = .ref p ∧ y = .int i ∧ SqT K H p xs ∧ atI xs i = some v ∧ Q v H
theorem ix_list : IxR X (rIxL X.K) := by
  intro value slice pins s σ H x y v u Q I rx ry h hs
  obtain ⟨p, xs, i, z, rfl, rfl, hq, he, q⟩ := h
  cases rx
  obtain ⟨t, rfl⟩ := ry
  obtain ⟨its, r, pl, hz⟩ := I.list hq
  obtain ⟨j, h1, h2, h3, h4, h5⟩ := atI_get he
  obtain ⟨w, ew, rw'⟩ := r.get h2
  have hl := r.length
  have hn := line63
  have fin : EP X pins σ Q w s := ⟨z, H, I, rw', q⟩
  by_cases h0 : 0 ≤ i
  · have hj : i.toNat = j := by
      rw [seqIndex_of h0 h5] at h1
      exact Option.some.inj h1
    exact item_listR pl.isList h0 (by omega) (by rw [hj]; simpa using ew) fin hs
  · have hj : (i + (its.toArray.size : Int)).toNat = j := by
      rw [seqIndex_neg (by omega) h4] at h1
      rw [List.size_toArray, ← hl]
      exact Option.some.inj h1
    exact subscriptTail_builtinR (x := w) pl.isList.typeIs slot_list_getitem.lookup
      (wpAny_getItem_list_neg (Q := fun r s' => r = w ∧ EP X pins σ Q r s') pl.isList (by omega) (by rw [List.size_toArray] <;> omega) (by omega) (by rw [hj]; simpa using ew) ⟨rfl, fin⟩) hs
theorem ix_tup : IxR X (rIxT X.K) := by
  intro value slice pins s σ H x y v u Q I rx ry h hs
  obtain ⟨p, xs, i, z, rfl, rfl, hq, he, q⟩ := h
  cases rx
  obtain ⟨t, rfl⟩ := ry
  obtain ⟨its, r, pl, hz⟩ := I.tuple hq
  obtain ⟨j, h1, h2, h3, h4, h5⟩ := atI_get he
  obtain ⟨w, ew, rw'⟩ := r.get h2
  have hl := r.length
  have hn := line63
  have fin : EP X pins σ Q w s := ⟨z, H, I, rw', q⟩
  exact subscriptTail_builtinR (x := w) pl.typeIs slot_tuple_getitem.lookup
    (getItem_tuple (j := j) (Q := fun r s' => r = w ∧ EP X pins σ Q r s') pl (by omega) (by omega) (by rw [List.size_toArray, ← hl]; exact h1) (by simpa using ew) ⟨rfl, fin⟩) hs
theorem Inv.lst {pins : List (Addr × Obj)} {σ : St} {H : Hp} {s : Shared} {p : Addr} {xs : List V} (I : Inv X pins σ H s) (h : H p = some (.lst xs)) :
    ∃ (its : List Value) (n : Nat), Vals xs its ∧ s.heap.get? p = some { cls := .type "list", data := .seq its.toArray n } ∧ xs.length ≤ sizeLine := by
  obtain ⟨z, its, n, r, e⟩ := I.hok p _ h
  exact ⟨its, n, r, e, z⟩
noncomputable def flatV : V → Bool
  | .non => true
  | .bl _ => true
  | .int _ => true
  | .str _ => true
  | _ => false
noncomputable def eqV : V → V → Bool
  | .non, .non => true
  | .bl a, .bl b => a == b
  | .bl a, .int b => (if a then 1 else 0) == b
  | .int a, .bl b => a == (if b then 1 else 0)
  | .int a, .int b => a == b
  | .str a, .str b => a == b
  | _, _ => false
theorem eqAt_V {A : Around} {s : Shared} {y x : V} {u v : Value} (ry : RelV y u) (rx : RelV x v) (fy : flatV y = true) (fx : flatV x = true) : SeqAt.EqAt A s u v (eqV y x) := by
  cases y with
  | non =>
    cases ry
    cases x with
    | non => cases rx; exact SeqAt.EqAt.same _
    | bl b => cases rx; exact SeqAt.EqAt.none_bool b
    | int b => obtain ⟨t, rfl⟩ := rx; exact SeqAt.EqAt.none_int b t
    | str b => obtain ⟨t, rfl⟩ := rx; exact SeqAt.EqAt.none_str b t
    | _ => exact absurd (show false = true from fx) Bool.false_ne_true
  | bl a =>
    cases ry
    cases x with
    | non => cases rx; exact SeqAt.EqAt.bool_none a
    | bl b => cases rx; exact SeqAt.EqAt.bool_bool a b
    | int b => obtain ⟨t, rfl⟩ := rx; exact SeqAt.EqAt.bool_int a b t
    | str b => obtain ⟨t, rfl⟩ := rx; exact SeqAt.EqAt.bool_str a b t
    | _ => exact absurd (show false = true from fx) Bool.false_ne_true
  | int a =>
    obtain ⟨t', rfl⟩ := ry
    cases x with
    | non => cases rx; exact SeqAt.EqAt.int_none a t'
    | bl b => cases rx; exact SeqAt.EqAt.int_bool a t' b
    | int b => obtain ⟨t, rfl⟩ := rx; exact SeqAt.EqAt.int_int a t' b t
    | str b => obtain ⟨t, rfl⟩ := rx; exact SeqAt.EqAt.int_str a t' b t
    | _ => exact absurd (show false = true from fx) Bool.false_ne_true
  | str a =>
    obtain ⟨t', rfl⟩ := ry
    cases x with
    | non => cases rx; exact SeqAt.EqAt.str_none a t'
    | bl b => cases rx; exact SeqAt.EqAt.str_bool a t' b
    | int b => obtain ⟨t, rfl⟩ := rx; exact SeqAt.EqAt.str_int a t' b t
    | str b => obtain ⟨t, rfl⟩ := rx; exact SeqAt.EqAt.str_str a t' b t
    | _ => exact absurd (show false = true from fx) Bool.false_ne_true
  | _ => exact absurd (show false = true from fy) Bool.false_ne_true
theorem call_len_seq : CallR X (.builtin "len") (fun xs H Q => ∃ p ys, xs = [.ref p] ∧ (SqL X.K H p ys ∨ SqT X.K H p ys) ∧ Q (.int ys.length) H) := by
  intro pins s σ H xs us Q I r h
  obtain ⟨p, ys, rfl, hq, q⟩ := h
  obtain ⟨u, rfl, rx⟩ := vals1 r
  cases rx
  have hn := line63
  rcases hq with hq | hq
  · obtain ⟨its, r', pl, hz⟩ := I.list hq
    have hlen := r'.length
    exact Calls.call_len_list pl.isList (by simp only [List.size_toArray] <;> omega) ⟨.int ys.length, H, I.tok _, ⟨s.toks + 1, by rw [List.size_toArray, hlen]⟩, q⟩
  · obtain ⟨its, r', pl, hz⟩ := I.tuple hq
    have hlen := r'.length
    exact len_tuple pl (by simp only [List.size_toArray] <;> omega) ⟨.int ys.length, H, I.tok _, ⟨s.toks + 1, by rw [List.size_toArray, hlen]⟩, q⟩
theorem call_len_str : CallR X (.builtin "len") (fun xs H Q => ∃ z, xs = [.str z] ∧ z.length ≤ sizeLine ∧ Q (.int z.length) H) := by
  intro pins s σ H xs us Q I r h
  obtain ⟨z, rfl, hz, q⟩ := h
  obtain ⟨u, rfl, t, rfl⟩ := vals1 r
  have hn := line63
  exact len_str (by omega) ⟨.int z.length, H, I.tok _, ⟨_, rfl⟩, q⟩
theorem CallR.or {f : Value} {r r' : List V → Hp → VK → Prop} (h : CallR X f r) (h' : CallR X f r') : CallR X f (fun xs H Q => r xs H Q ∨ r' xs H Q) := by
  intro pins s σ H xs us Q I rs q
  rcases q with q | q
  · exact h pins s σ H xs us Q I rs q
  · exact h' pins s σ H xs us Q I rs q
theorem call_tuple_of : CallR X (.type "tuple") (fun xs H Q => ∃ p ys, xs = [.ref p] ∧ ((SqL X.K H p ys ∧ ∀ l, H l = none → Q (.ref l) (upd H l (.tup ys))) ∨ (SqT X.K H p ys ∧ Q (.ref p) H))) := by
  intro pins s σ H xs us Q I r h
  obtain ⟨p, ys, rfl, h⟩ := h
  obtain ⟨u, rfl, rx⟩ := vals1 r
  cases rx
  rcases h with ⟨hq, q⟩ | ⟨hq, q⟩
  · obtain ⟨its, r', pl, hz⟩ := I.list hq
    have hlen := r'.length
    refine call_tuple_list pl.isList (fun h' kp => ?_) (by simp only [List.size_toArray] <;> omega)
    have I1 : Inv X pins σ H { s with heap := h' } := I.kept (t' := s.toks) kp
    have I2 : Inv X pins σ (upd H h'.objs.size (.tup ys)) { s with heap := h'.push { cls := .type "tuple", data := .seq its.toArray } } :=
      I1.laid (t' := s.toks) (fun b o e => Heap.get?_push_of_some _ e) (Nat.le_refl _) (show ObjOk X.prog X.w _ _ _ (.tup ys) from ⟨hz, its, r', IsTup.new _ _⟩)
    exact ⟨.ref h'.objs.size, _, I2, rfl, q _ (I1.hok.fresh (Nat.le_refl _))⟩
  · obtain ⟨its, r', pl, hz⟩ := I.tuple hq
    exact call_tuple_same pl ⟨.ref p, H, I, rfl, q⟩
noncomputable def tyV (K : PySem.W.Frag) (T : String) (x : V) (H : Hp) : Prop := match x with
  | .str _ => T = "str"
  | .int _ => T = "int"
  | .ref p => (T = "list" ∧ ∃ xs, SqL K H p xs) ∨ (T = "tuple" ∧ ∃ o, K.lookup p = some o ∧ o.cls = .type "tuple" ∧ o.dict = none) ∨
      (T = "dict" ∧ ((∃ kvs, H p = some (.dK kvs)) ∨ ∃ kvs, H p = some (.dT kvs))) ∨ (T = "set" ∧ ∃ S n, H p = some (.set S n))
  | _ => False
theorem tyV_is {pins : List (Addr × Obj)} {σ : St} {H : Hp} {s : Shared} {T : String} {x : V} {v : Value} (I : Inv X pins σ H s) (r : RelV x v) (ty : tyV X.K T x H) :
    s.TypeIs v T ∧ ∀ a, v = .ref a → ∃ ob, s.heap.get? a = some ob ∧ ob.dict = none := by
  cases x with
  | str z =>
    obtain ⟨t, rfl⟩ := r
    cases (show T = "str" from ty)
    exact ⟨typeIs_str s z t, fun _ e => nomatch e⟩
  | int i =>
    obtain ⟨t, rfl⟩ := r
    cases (show T = "int" from ty)
    exact ⟨typeIs_int s i t, fun _ e => nomatch e⟩
  | ref p =>
    cases r
    rcases ty with ⟨rfl, xs, hq⟩ | ⟨rfl, o, hk, hc, hd⟩ | ⟨rfl, hk⟩ | ⟨rfl, S, n, hk⟩
    · obtain ⟨its, _, pl, _⟩ := I.list hq
      refine ⟨pl.isList.typeIs, fun a e => ?_⟩
      cases e
      obtain ⟨o, n, e, c, hd, _⟩ := pl
      exact ⟨o, e, hd⟩
    · refine ⟨⟨o, I.kIn p o hk, hc⟩, fun a e => ?_⟩
      cases e
      exact ⟨o, I.kIn _ o hk, hd⟩
    · have z : ∃ o, s.heap.get? p = some o ∧ o.ExactDict := by
        rcases hk with ⟨kvs, hk⟩ | ⟨kvs, hk⟩
        · obtain ⟨_, _, _, _, o, _, _, e, ex, _⟩ := I.hok p _ hk
          exact ⟨o, e, ex⟩
        · obtain ⟨_, _, _, _, o, _, _, e, ex, _⟩ := I.hok p _ hk
          exact ⟨o, e, ex⟩
      obtain ⟨o, e, ex⟩ := z
      refine ⟨⟨o, e, ex.1⟩, fun a e2 => ?_⟩
      cases e2
      exact ⟨o, e, ex.2.1⟩
    · obtain ⟨o, _, _, _, e, ex, _⟩ := I.hok p _ hk
      refine ⟨⟨o, e, ex.1⟩, fun a e2 => ?_⟩
      cases e2
      exact ⟨o, e, ex.2.1⟩
  | _ => exact False.elim ty
noncomputable def tBM (K : PySem.W.Frag) (T : String) (r : V → List V → Hp → VK → Prop) (to : TE) (t : TA) : TE := fun σ H Q => to σ H fun x H1 => tyV K T x H1 ∧ t σ H1 fun xs H2 => r x xs H2 Q
variable {o e : Expr} {es : List Expr} {to : TE} {t : TA} {name : Str} {apos cpos : Pos} {T id : String} {r : V → List V → Hp → VK → Prop}
theorem pe_bm (pa : PlainAttrs T) (slot : Slot T name id) (hty : typeOf (.builtin id) = pure (.type "method_descriptor")) (hm : MtR X id r) (ho : PE X o to) (ha : PA X (e :: es) t)
    (hbase : attributeBase o name X.env (eval o X.env) = eval o X.env := by rfl)
    (hfew : ((backTo cpos (starEach (e :: es) X.env)).all (fun x => !x.1) && (backToKw cpos (keywordEach [] X.env)).all (fun x => x.1.isSome)
      && decide ((e :: es).length + ([] : List Keyword).length + (if ([] : List Keyword).isEmpty then 0 else 1) < 30)) = true := by rfl)
    (hline : (apos.endLine == cpos.line) = true := by rfl) (hs : starEach (e :: es) X.env = (false, eval e X.env) :: starEach es X.env := by rfl) (hplain : (backTo cpos (starEach es X.env)).any (·.1) = false := by rfl) :
    PE X (.Call (.Attribute o name apos) (e :: es) [] cpos) (tBM X.K T r to t) := by
  intro pins s σ H Q I h
  refine wpAny_Call_method_late hbase hfew hline rfl (thn (ho pins s σ H _ I h) fun v s1 ⟨x, H1, I1, r1, ty, q1⟩ => ?_)
  obtain ⟨h1, h2⟩ := tyV_is I1 r1 ty
  refine ⟨T, id, pa, slot, hty, h1, h2, ?_⟩
  have hA := ha cpos pins s1 σ H1 _ I1 q1
  rw [hs] at hA ⊢
  refine Calls.callWith_builtin (by show (false || (backTo cpos (starEach es X.env)).any (·.1)) = false; rw [hplain] <;> rfl) (Calls.evalArgs_plain ?_)
  exact thn hA fun us s2 ⟨vs, H2, I2, r2, q2⟩ => hm pins s2 σ H2 x vs v us Q I2 r1 r2 q2
/- xs.append(e), list.index on a module's tuple .. are MtR facts of 06m -/
end
end L2
namespace L2
open PySem PySem.Spec PyProof.Rows
noncomputable def MtM (X : Cx) (id : String) (r : V → List V → Hp → VK → Prop) : Prop :=
  ∀ (pins : List (Addr × Obj)) (s : Shared) (σ : St) (H : Hp) (x : V) (xs : List V) (v : Value) (us : List Value) (Q : VK), Inv X pins σ H s → RelV x v → Vals xs us → r x xs H Q →
    wpAny (model X.prog X.w) X.A (call (.builtin id) (v :: us)) (EP X pins σ Q) X.xe s
theorem Vals.one : ∀ {x : V} {us : List Value}, Vals [x] us → ∃ u, us = [u] ∧ RelV x u
  | _, _, .cons r .nil => ⟨_, rfl, r⟩
theorem Vals.zero : ∀ {us : List Value}, Vals [] us → us = []
  | _, .nil => rfl
theorem Vals.reverse {xs : List V} {us : List Value} (h : Vals xs us) : Vals xs.reverse us.reverse := by
  induction h with
  | nil => exact .nil
  | cons r t ih => rw [List.reverse_cons, List.reverse_cons]; exact Vals.append ih (.cons r .nil)
theorem Vals.rep {xs : List V} {us : List Value} (h : Vals xs us) : ∀ k : Nat, Vals (List.replicate k xs).flatten (List.replicate k us).flatten
  | 0 => .nil
  | k + 1 => by
    rw [List.replicate_succ, List.replicate_succ, List.flatten_cons, List.flatten_cons]
    exact Vals.append h (Vals.rep h k)
section
variable {X : Cx} {pins : List (Addr × Obj)} {σ : St} {H : Hp} {s : Shared} {l b : Addr} {xs ys zs : List V}
theorem Inv.lset {its its' : List Value} {n : Nat} {f : Array Value → Array Value} {t' : Nat} (I : Inv X pins σ H s) (hH : H l = some (.lst xs))
    (e : s.heap.get? l = some { cls := .type "list", data := .seq its.toArray n }) (hf : f its.toArray = its'.toArray) (hv : Vals ys its') (hz : ys.length ≤ sizeLine) :
    Inv X pins σ (upd H l (.lst ys)) { s with heap := s.heap.update l (Obj.mapSeq f), toks := t' } := by
  have q := PySem.IsL.update e f
  rw [hf] at q
  refine I.write (x := l) (e := l) (by rw [hH]; exact trivial) (.inl rfl) (fun b' u hb hu => (Heap.get?_update_other s.heap (Obj.mapSeq f) (Ne.symm hb)).trans hu) ⟨_, q⟩ ?_
  exact ⟨hz, its', _, hv, q⟩
theorem Inv.lnew {its : List Value} {t' : Nat} (I : Inv X pins σ H s) (hv : Vals ys its) (hz : ys.length ≤ sizeLine) :
    Inv X pins σ (upd H s.heap.objs.size (.lst ys)) { s with heap := s.heap.push { cls := .type "list", data := .seq its.toArray }, toks := t' } :=
  I.laid (fun _ _ q => Heap.get?_push_of_some _ q) (Nat.le_refl _) ⟨hz, its, 0, hv, Heap.get?_push_size _ rfl⟩
theorem Inv.fresh (I : Inv X pins σ H s) : H s.heap.objs.size = none := I.hok.fresh (Nat.le_refl _)
theorem Inv.lstM (I : Inv X pins σ H s) (hH : H l = some (.lst xs)) : xs.length ≤ sizeLine ∧ ∃ (its : List Value) (n : Nat), Vals xs its ∧ xs.length = its.length ∧ s.heap.get? l = some { cls := .type "list", data := .seq its.toArray n } := by
  obtain ⟨z, its, n, r, e⟩ := I.hok l _ hH
  exact ⟨z, its, n, r, r.length, e⟩
theorem notLongL {n : Nat} (h : n ≤ sizeLine) : Builtin.List.listTooLong n = false := by
  unfold Builtin.List.listTooLong
  exact decide_eq_false (by omega)
end
section
variable {X : Cx}
noncomputable def rAppend : V → List V → Hp → VK → Prop := fun x vs H Q => ∃ l xs y, x = .ref l ∧ vs = [y] ∧ H l = some (.lst xs) ∧ xs.length < sizeLine ∧ Q .non (upd H l (.lst (xs ++ [y])))
theorem mt_append : MtM X "list.append" rAppend := by
  intro pins s σ H x vs v us Q I rx rv h
  obtain ⟨l, xs, y, rfl, rfl, hH, hz, q⟩ := h
  cases rx
  obtain ⟨u, rfl, ru⟩ := rv.one
  obtain ⟨z, its, n, r, hl, e⟩ := I.lstM hH
  refine call_meets F.slot_list_append ⟨_, e, rfl⟩ F.entry_list_append (F.args_list_append_2 _ _) (PySem.list_append l its.toArray n u (by rw [List.size_toArray]; omega)) ⟨e, ?_⟩
  refine ⟨.non, _, I.lset (its' := its ++ [u]) hH e (by simp) (r.append (.cons ru .nil)) ?_, rfl, q⟩
  rw [List.length_append, List.length_singleton]
  omega
noncomputable def rCat : R2 := fun x y H Q => ∃ l b xs zs, x = .ref l ∧ y = .ref b ∧ H l = some (.lst xs) ∧ H b = some (.lst zs) ∧ xs.length + zs.length ≤ sizeLine ∧ ∀ p, H p = none → Q (.ref p) (upd H p (.lst (xs ++ zs)))
theorem op_cat : OpR X (binaryOp .Add) rCat := by
  intro pins s σ H x y v u Q I rx ry h
  obtain ⟨l, b, xs, zs, rfl, rfl, hH, hB, hz, q⟩ := h
  cases rx
  cases ry
  obtain ⟨z, its, n, r, hl, e⟩ := I.lstM hH
  obtain ⟨z2, its2, n2, r2, hl2, e2⟩ := I.lstM hB
  refine PySem.P.add_list e e2 ?_ (by rw [List.size_toArray, List.size_toArray]; omega)
  have ea : its.toArray ++ its2.toArray = (its ++ its2).toArray := by simp
  rw [ea]
  exact ⟨.ref _, _, I.lnew (t' := s.toks) (r.append r2) (by rw [List.length_append]; omega), rfl, q _ I.fresh⟩
end
end L2
namespace Att
open PySem PySem.W PySem.Calls PyProof.Rows
theorem ints_of_wellAll {P : Params} {h : Heap} : ∀ (ns : List Int) (vs : List Value), WellAll P h vs (ns.map WData.int) → IntsAre vs ns := by
  intro ns
  induction ns with
  | nil =>
    intro vs w
    rw [List.map_nil] at w
    cases w
    exact .nil
  | cons n ns ih =>
    intro vs w
    rw [List.map_cons] at w
    cases w with
    | cons a b =>
      cases a
      exact .cons _ _ (ih _ b)
theorem script_of {l : OpenLaw} {n : Nat} (hn : l.most = some n) {P : Params} {h : Heap} {args : List WData} {vals : List Value}
    (hpre : l.row.toRowW.claim.pre args = true) (hwl : WellAll P h vals args) :
    ∃ a vs ns, vals = [Value.ref a] ∧ args = [WData.list (ns.map WData.int)] ∧ h.get? a = some { cls := .type "list", data := .seq vs.toArray } ∧ IntsAre vs ns ∧ ns.length ≤ n := by
  have hsh : WShape.hasAll [] args [.list .int] = true := (pre_splitW hpre).1
  have hc : l.pre.holds [] { args := args } = true := (pre_splitW hpre).2
  obtain ⟨d, r, rfl, h1, h2⟩ := hasAllW_cons hsh
  obtain rfl := hasAllW_nil h2
  obtain ⟨xs, rfl, h3⟩ := hasW_list h1
  obtain ⟨ns, rfl⟩ := items_int h3
  have hlen : ns.length ≤ n := by
    unfold OpenLaw.pre at hc
    have h4 : (WTm.not (.lt (.lit (.int (n : Int))) (.len (.arg 0)))).holds [] { args := [.list (ns.map .int)] } = true := by
      have h4 := (holds_andW hc).1
      rw [hn] at h4
      exact h4
    have h5 := condW_of h4 (w_not (w_lt w_lit (w_len_list (w_arg rfl))))
    rw [List.length_map] at h5
    refine Nat.le_of_not_lt fun q => ?_
    have q' : (n : Int) < ((ns.length : Nat) : Int) := by omega
    first
      | (rw [decide_eq_true q'] at h5; exact absurd h5 (by decide))
      | (simp at h5; omega)
  cases hwl with
  | cons w1 w2 =>
    cases w2
    cases w1 with
    | list ho hall => exact ⟨_, _, ns, rfl, rfl, ho, ints_of_wellAll ns _ hall, hlen⟩
theorem post_true (l : OpenLaw) (args : List WData) : l.row.toRowW.claim.post args (.bool true) args = true :=
  postW_of (r := l.row.toRowW) (X := (true == true))
    (show WShape.has [] (.bool true) .bool = true by first | rfl | decide | simp [WShape.has, WShape.arms, WShape.armsAll])
    (show (WTm.eq .res (.lit (.bool true))).value [] { args := args, res := some (.bool true), after := args } = some (.bool (true == true)) from w_eq_bool (w_res rfl) w_lit) rfl
theorem attach_call {l : OpenLaw} {n : Nat} {q : Program} {loose : List Str} {XP : (Str → Option Value) → Heap → Prop} {YP : World → Heap → Prop} {d : DefRec}
    (hn : l.most = some n) (hdf : d.params.defaults = [])
    (call : ∀ (w : World) (s₀ s₁ : Shared) (mg mb : Str → Option Value) (fa : Addr) (o : Obj) (pm cd doc : Value) (a : Addr) (vs : List Value) (ns : List Int),
      Ground q loose [] XP w s₀ mg mb s₁.heap → YP w s₁.heap →
      s₁.heap.get? fa = some o → o.data = .func (docDef d.name d.params d.body d.scope pm cd doc) → s₁.heap.CodeRec cd d.name → mg d.name = some (.ref fa) →
      s₁.heap.get? a = some { cls := .type "list", data := .seq vs.toArray } → IntsAre vs ns → ns.length ≤ n → s₁.gens = #[] →
      codeAny (model l.prog w) callerA (.call (.ref fa) ⟨[.ref a], []⟩) (fun r s' => r = .ok (.ret (.bool true)) ∧ OldK s₁.heap s'.heap ∧ s'.os = s₁.os ∧ AllBare s'.gens) s₁) :
    WalkO q loose XP YP l.row.toRowW d [] (fun f vs => PySem.call f vs) := by
  intro w s₀ s₁ mg mb G Y fa o pm cd doc dV kV ho hd hcd hD hmg hg args vals as hpre hlay hrd hwl hlo
  obtain rfl : dV = .none := Dflts.none hD hdf
  obtain rfl : kV = .none := Dflts.noKw hD
  obtain ⟨a, vs, ns, rfl, rfl, hobj, hints, hlen⟩ := script_of hn hpre hwl
  refine enter_call (codeAny_mono (call w s₀ s₁ mg mb fa o pm cd doc a vs ns G Y ho (fd_plain hd) hcd hmg hobj hints hlen hg) fun r s' hq => ?_)
  obtain ⟨rfl, h2, h3, h4⟩ := hq
  exact ⟨.inl ⟨.bool true, .bool true, [], rfl, fun _ => rfl, .bool true, post_true l _, fun _ => ⟨List.Pairwise.nil, fun _ hm => (nomatch hm)⟩⟩, h2, h3, h4⟩
section
variable {prog : Program} {w : World} {A : Around} {E : Value → Shared → Prop} {s : Shared} {K : Frag}
noncomputable def ledger (h : Heap) (L d : Addr) : List (Addr × Obj) := (List.range h.objs.size).filterMap fun a => if a = L ∨ a = d then none else (h.get? a).map fun o => (a, o)
end
end Att
namespace L2
open PySem PySem.Spec PyProof.Rows
theorem vals_ints : ∀ {vs : List Value} {ns : List Int}, IntsAre vs ns → Vals (ns.map V.int) vs
  | _, _, .nil => .nil
  | _, _, .cons n t h => .cons ⟨t, rfl⟩ (vals_ints h)
noncomputable def Only (H : Hp) : Prop := ∀ b, H b = none ∨ ∃ o xs, H b = some (.frz o (.lst xs))
theorem law_call {P : Program} {w : World} {K : PySem.W.Frag} {mg mb : Str → Option Value} {CX : CXT} {k : Nat} {fa a : Addr} {fd : FuncData} {x : Str} {sp : Sp} {s₁ : Shared} {vs : List Value} {ns : List Int}
    (KX : K.In s₁.heap) (hns : s₁.heap.Ns mainGlobals mg) (hb : s₁.heap.Ns builtinsNs mb) (hbb : ∀ x : Str, x ≠ "__name__" → mb x = bootBuiltins x) (hlim : s₁.heap.NoLimit) (hg : s₁.gens = #[])
    (ha : s₁.heap.get? a = some { cls := .type "list", data := .seq vs.toArray }) (hi : IntsAre vs ns) (hl : ns.length ≤ sizeLine) (hr : Room k callerA)
    (F : ∀ base : Heap, K.In base → base.Ns mainGlobals mg → FnOk P w K mg base CX k fa fd [x] sp) (hbind : ∀ (s : Shared) (u : Value), BindsTo s fd ⟨[u], []⟩ [(x, u)])
    (hsp : ∀ H : Hp, Only H → SqL K H a (ns.map V.int) → sp [.ref a] H (fun v _ => v = .bl true) fun _ _ _ => False)
    (hCX : ∀ H e s', CX [] H s₁ (fun _ _ _ => False) e s' → False) :
    codeAny (model P w) callerA (.call (.ref fa) ⟨[.ref a], []⟩) (fun r s' => r = .ok (.ret (.bool true)) ∧ OldK s₁.heap s'.heap ∧ s'.os = s₁.os ∧ AllBare s'.gens) s₁ := by
  have rv := vals_ints hi
  have lenV := hi.length
  -- from an abstract heap in which nothing but the script may be tracked
  have core : ∀ H : Hp, Only H → SqL K H a (ns.map V.int) → HOk P w H s₁.heap → (∀ b, H b ≠ none → b = a) → (H a ≠ none → K.lookup a = none) →
      codeAny (model P w) callerA (.call (.ref fa) ⟨[.ref a], []⟩) (fun r s' => r = .ok (.ret (.bool true)) ∧ OldK s₁.heap s'.heap ∧ s'.os = s₁.os ∧ AllBare s'.gens) s₁ := by
    intro H hO hS hok hA hK
    have base_of : ∀ {b : Addr} {o : Obj}, s₁.heap.get? b = some o → H b = none → (hidT s₁.heap H).get? b = some o := fun e n => hidT_get e n
    have noA : ∀ {b : Addr} {o : Obj} {es : Array DictEntry} {ep : Nat}, s₁.heap.get? b = some o → o.data = .dict es ep → H b = none := fun {b o es ep} e d => by
      cases q : H b with
      | none => rfl
      | some u =>
        have e' : b = a := hA b (by rw [q]; simp)
        subst e'
        rw [ha] at e; cases e
        have d' : Data.seq vs.toArray _ = Data.dict es ep := d
        cases d'
    have nsK : ∀ {b : Addr} {m : Str → Option Value}, s₁.heap.Ns b m → (hidT s₁.heap H).Ns b m := fun {b m} ⟨o, es, ep, e, d, r⟩ => ⟨o, es, ep, base_of e (noA e d), d, r⟩
    have hKb : K.In (hidT s₁.heap H) := fun b o e => base_of (KX b o e) (by
      cases q : H b with
      | none => rfl
      | some u =>
        have e' : b = a := hA b (by rw [q]; simp)
        subst e'
        rw [hK (by rw [q]; simp)] at e; cases e)
    have hM : Mod K mg (hidT s₁.heap H) := ⟨hKb, nsK hns, ⟨mb, nsK hb, hbb⟩, let ⟨mc, h1, h2⟩ := hlim; ⟨mc, nsK h1, h2⟩⟩
    have e0 : Env0 P w K mg (hidT s₁.heap H) callerA [] s₁ H := ⟨rfl, hM, fun b o e => of_hidT e, Nat.le_of_eq (hidT_size _ _), trivial, fun b hb => absurd (show b ∈ ([] : List Addr) from hb) (by simp), hok, .of_eq hg⟩
    refine codeAny_mono ((F _ hKb (nsK hns)).run callerA [] s₁ H ⟨[.ref a], []⟩ [.ref a] [.ref a] _ _ hr e0 (hbind s₁ (.ref a)) (.cons rfl .nil) (hsp H hO hS)) fun r s' h => ?_
    cases r with
    | error e => exact (hCX H e s' h).elim
    | ok fl =>
      cases fl with
      | next => exact False.elim h
      | brk => exact False.elim h
      | cont => exact False.elim h
      | ret u =>
        obtain ⟨v, H', os, bare, un, hok', r', q⟩ := h
        have q' : v = .bl true := q
        subst q'
        obtain rfl : u = Value.bool true := r'
        refine ⟨rfl, OldK.of_keep fun b o e => ?_, os, bare⟩
        cases q : H b with
        | none => exact un.keep b o e q (by intro z; exact absurd (show b ∈ ([] : List Addr) from z) (by simp)) (by simp)
        | some u =>
          rcases hO b with z | ⟨ob, xs, z⟩
          · rw [q] at z; cases z
          · have z2 := un.frzs b ob _ z
            obtain ⟨e1, _⟩ := hok b _ z
            obtain ⟨e2, _⟩ := hok' b _ z2
            rw [e] at e1; cases e1
            exact e2
  cases hk : K.lookup a with
  | some o =>
    -- the script is one of the module's own objects
    have e := KX a o hk
    rw [ha] at e
    cases e
    refine core (fun _ => none) (fun _ => .inl rfl) (.inr ⟨_, vs.toArray, _, hk, rfl, rfl, rfl, by rw [List.size_toArray, lenV]; exact hl, by simpa using rv⟩) (fun b u z => by have z' : (none : Option HO) = some u := z; cases z') (fun b z => absurd rfl z) fun z => absurd rfl z
  | none =>
    refine core (fun b => if b = a then some (.frz { cls := .type "list", data := .seq vs.toArray } (.lst (ns.map V.int))) else none) (fun b => ?_) (.inl (.inr ⟨{ cls := .type "list", data := .seq vs.toArray }, if_pos rfl⟩)) (fun b u z => ?_) (fun b z => ?_) fun _ => hk
    · by_cases hb : b = a
      · exact .inr ⟨_, _, if_pos hb⟩
      · exact .inl (if_neg hb)
    · by_cases hb : b = a
      · have z' := (if_pos hb).symm.trans z
        cases z'
        subst hb
        exact ⟨ha, by rw [List.length_map]; exact hl, vs, _, rv, ha⟩
      · have z' := (if_neg hb).symm.trans z
        cases z'
    · by_cases hb : b = a
      · exact hb
      · exact absurd (if_neg hb) z
end L2
namespace L2
open PySem PySem.Spec PyProof.Rows
noncomputable abbrev KOf {K : PySem.W.Frag} {h : Heap} (_ : K.In h) : PySem.W.Frag := K
theorem walk_of {l : PySem.W.OpenLaw} {n k : Nat} {q : Program} {loose : List Str} {XP : (Str → Option Value) → Heap → Prop} {YP : World → Heap → Prop} {d : DefRec} {K : Params → PySem.W.Frag} {CX : World → CXT} {sp : World → Sp} {x : Str}
    (hn : l.most = some n) (hn2 : n ≤ sizeLine) (hdf : d.params.defaults = []) (hr : Room k callerA)
    (hY : ∀ (w : World) (h : Heap), YP w h → (K w.params).In h)
    (F : ∀ (w : World) (mg : Str → Option Value) (fa : Addr) (h : Heap), (K w.params).In h → h.Ns mainGlobals mg → mg d.name = some (.ref fa) →
      ∃ fd : FuncData, (∀ (s : Shared) (u : Value), BindsTo s fd ⟨[u], []⟩ [(x, u)]) ∧
        ∀ base : Heap, (K w.params).In base → base.Ns mainGlobals mg → FnOk l.prog w (K w.params) mg base (CX w) k fa fd [x] (sp w))
    (hsp : ∀ (w : World) (H : Hp) (a : Addr) (ns : List Int), ns.length ≤ n → Only H → SqL (K w.params) H a (ns.map V.int) → sp w [.ref a] H (fun v _ => v = .bl true) fun _ _ _ => False)
    (hCX : ∀ (w : World) (H : Hp) (s : Shared) (e : Value) (s' : Shared), CX w [] H s (fun _ _ _ => False) e s' → False) :
    PySem.W.WalkO q loose XP YP l.row.toRowW d [] (fun f vs => PySem.call f vs) := by
  refine Att.attach_call hn hdf fun w s₀ s₁ mg mb fa o pm cd doc a vs ns G Y ho hd hcd hmg hobj hints hlen hg => ?_
  have KX := hY w _ Y
  obtain ⟨fd, hb, hF⟩ := F w mg fa _ KX G.T.g hmg
  exact law_call KX G.T.g G.T.b G.T.builtins G.T.nolimit hg hobj hints (Nat.le_trans hlen hn2) hr hF hb (fun H hO hS => hsp w H a ns hlen hO hS) fun H e s' => hCX w H s₁ e s'
end L2
/- THE LAST THEOREM (shape; LID, My.* are yours):
   My.Adr: a structure of the addresses that your layer names (classes, functions); My.Txt K t: a structure (Prop) of the equations over K;
   My.txt_mk : {K} {implicit addresses ..} (e1 : nsIn K mainGlobals "law" = some (some (.ref f))) (e2 : K.lookup f = some ⟨oc, od, .func (fnOf "law" "law" params body scope dV kV doc pm an cdv ct), sl⟩) (e3 : codeIn K cdv "law" = true) .. : ∃ t, My.Txt K t
set_option maxRecDepth 100000 in
set_option maxHeartbeats 0 in
theorem PySem.Challenge.cw_LID_holds : PySem.Challenge.rw_LID.Holds := by
  w_on; o_law; k_head; (case hw => w_witness2)
  k_fill
  refine L2.walk_of (l := PySem.Challenge.rw_LID) (n := 63) (k := 40) (x := "script") (CX := fun w => ..) (sp := fun _ => My.sp_law) rfl (by decide) rfl ⟨rfl, by decide, by decide⟩ (fun w h Y => PySem.W.kIn_of Y) ?F ?S ?C
  case F =>
    intro w mg fa h KX G hmg
    have T : ∃ t, My.Txt (L2.KOf KX) t := by
      dsimp only [L2.KOf]                          -- K must stand as «<heap const> w.params» for k_is
      refine' My.txt_mk ?e1 ?e2 ?e3 ..
      (case e1 => PySem.W.k_is)                    -- in the order: a name -> its address -> its object -> its parts
      (case e2 => PySem.W.k_is)
      ..
    obtain ⟨t, T⟩ := T
    have e0 := hmg.symm.trans (PySem.W.mg_of KX G T.law)
    cases e0                                       -- fa is the law's own address
    exact ⟨_, fun s u => .of_eq rfl, fun base kb nb => My.law_fn T kb nb⟩     -- if «.of_eq rfl» comes too early: refine' ⟨_, ?b, fun base kb nb => My.law_fn T kb nb⟩; exact fun s u => .of_eq rfl
  case S => exact fun w H a ns hl hO hS => ..
  case C => exact ..
(the tactic k_is has no namespace: write k_is) -/
namespace L2
open PySem PySem.Spec PyProof.Rows
noncomputable def defArgs (s : Stmt) : Arguments := match s with
  | .FunctionDef _ a _ _ _ _ _ _ _ _ => a
  | _ => { posonlyargs := [], args := [], vararg := none, kwonlyargs := [], kw_defaults := [], kwarg := none, defaults := [] }
noncomputable def defBody (s : Stmt) : List Stmt := match s with
  | .FunctionDef _ _ b _ _ _ _ _ _ _ => b
  | _ => []
noncomputable def defScope (s : Stmt) : Scope := match s with
  | .FunctionDef _ _ _ _ _ _ sc _ _ _ => sc
  | _ => { kind := .function, names := [], isGenerator := false, isCoroutine := false }
noncomputable abbrev CX0 : CXT := fun _ _ _ _ _ _ => False
noncomputable abbrev E0 : XK := fun _ _ _ => False
theorem pass0 {X : Cx} : Passes CX0 X E0 := fun _ _ _ _ _ _ _ h => h.elim
structure Fun (K : PySem.W.Frag) (x qual : Str) (st : Stmt) (f : Addr) (fd : FuncData) : Prop where
  ex : ∃ (oc : Value) (od : Option Addr) (kV doc pm : Value) (an : Option Addr) (cdv ct : Value) (osl : Array (Option Value)),
    fd = PySem.W.fnOf x qual (defArgs st) (defBody st) (defScope st) .none kV doc pm an cdv ct ∧ K.lookup f = some ⟨oc, od, .func fd, osl⟩ ∧ PySem.W.codeIn K cdv qual = true
  kp : PySem.W.keepIn K (.ref f) = true
section
variable {P : Program} {w : World} {K : PySem.W.Frag} {mg : Str → Option Value} {base : Heap}
theorem Fun.ok {x qual : Str} {st : Stmt} {f : Addr} {fd : FuncData} {N ps : List Str} {k : Nat} {sp : Sp} (F : Fun K x qual st f fd) (S : FnScope N ps (defScope st)) (len : ∀ vs H Q E, sp vs H Q E → vs.length = ps.length)
    (hbody : ∀ (cdv : Value) (A : Around) (outer : List Env) (s : Shared) (H : Hp) (vs : List V) (Q : VK) (E : XK), Room k (A.deeper (envOfC qual (defScope st) s.heap.objs.size f cdv)) → sp vs H Q E →
      ∃ t, PSs (cxOf CX0 P w K mg base N qual (defScope st) f cdv A outer s H E).nox (defBody st) t ∧ t { nx := fun _ H' => Q .non H', rt := Q } (start N vs) H) : FnOk P w K mg base CX0 (k + 1) f fd ps sp := by
  obtain ⟨oc, od, kV, doc, pm, an, cdv, ct, osl, rfl, lk, hcd⟩ := F.ex
  refine fn_of lk hcd S len fun A outer s H vs Q E hr hsp => ?_
  obtain ⟨t, h, q⟩ := hbody cdv A outer s H vs Q E hr hsp
  exact ⟨t, h.nox, q⟩
theorem Fun.binds {x qual : Str} {st : Stmt} {f : Addr} {fd : FuncData} {ps : List Str} (F : Fun K x qual st f fd)
    (h : ∀ (kV doc pm : Value) (an : Option Addr) (cdv ct : Value) (us : List Value), us.length = ps.length → bindArgs (PySem.W.fnOf x qual (defArgs st) (defBody st) (defScope st) .none kV doc pm an cdv ct) ⟨us, []⟩ = pure (ps.zip us)) : Binds K fd ps [] := by
  obtain ⟨oc, od, kV, doc, pm, an, cdv, ct, osl, rfl, lk, hcd⟩ := F.ex
  exact .all (h kV doc pm an cdv ct)
theorem fun_mk {x qual : Str} {st : Stmt} {f : Addr} {oc : Value} {od an : Option Addr} {osl : Array (Option Value)} {kV doc pm cdv ct : Value} (l : K.lookup f = some ⟨oc, od, .func (PySem.W.fnOf x qual (defArgs st) (defBody st) (defScope st) .none kV doc pm an cdv ct), osl⟩)
    (c : PySem.W.codeIn K cdv qual = true) (k : PySem.W.keepIn K (.ref f) = true) : Fun K x qual st f (PySem.W.fnOf x qual (defArgs st) (defBody st) (defScope st) .none kV doc pm an cdv ct) := ⟨⟨oc, od, kV, doc, pm, an, cdv, ct, osl, rfl, l, c⟩, k⟩
end
theorem small1000 {n : Nat} (h : n ≤ 1000) : n < sizeLine := Nat.lt_of_le_of_lt h (by decide)
noncomputable def Same (H H' : Hp) : Prop := ∀ b o, H b = some o → H' b = some o
theorem Same.refl (H : Hp) : Same H H := fun _ _ h => h
theorem Same.trans {H H1 H2 : Hp} (a : Same H H1) (b : Same H1 H2) : Same H H2 := fun c o h => b c o (a c o h)
theorem Same.free {H H' : Hp} (e : Same H H') {l : Addr} (h : H' l = Option.none) : H l = Option.none := by
  cases q : H l with
  | none => rfl
  | some o =>
    rw [e l o q] at h
    cases h
theorem Same.seq {K : PySem.W.Frag} {H H' : Hp} {a : Addr} {xs : List V} (e : Same H H') (h : SqL K H a xs) : SqL K H' a xs := by
  rcases h with (h | ⟨o, h⟩) | h
  · exact .inl (.inl (e _ _ h))
  · exact .inl (.inr ⟨o, e _ _ h⟩)
  · exact .inr h
end L2
set_option maxHeartbeats 1000000
namespace TF
open PySem PySem.Spec L2
open PyProof.Rows hiding St RelV
inductive Dat where
  | non | bl (b : Bool) | int (i : Int) | str (x : Str) | fn (a : Addr) | scr (ns : List Int) | tup (l : List Dat) | lst (l : List Dat)
mutual
noncomputable def Rep (K : PySem.W.Frag) (H : Hp) : Dat → V → Prop
  | .non, v => v = .non
  | .bl b, v => v = .bl b
  | .int i, v => v = .int i
  | .str x, v => v = .str x
  | .fn a, v => v = .ref a
  | .scr ns, v => ∃ a, v = .ref a ∧ SqL K H a (ns.map V.int)
  | .tup l, v => ∃ a vs, v = .ref a ∧ SqT K H a vs ∧ RepL K H l vs
  | .lst l, v => ∃ a vs, v = .ref a ∧ H a = some (.lst vs) ∧ RepL K H l vs
noncomputable def RepL (K : PySem.W.Frag) (H : Hp) : List Dat → List V → Prop
  | [], vs => vs = []
  | d :: ds, vs => ∃ v r, vs = v :: r ∧ Rep K H d v ∧ RepL K H ds r
end
theorem sqT_same {K : PySem.W.Frag} {H H' : Hp} {a : Addr} {xs : List V} (e : Same H H') (h : SqT K H a xs) : SqT K H' a xs := by
  rcases h with (h | ⟨o, h⟩) | h
  · exact .inl (.inl (e _ _ h))
  · exact .inl (.inr ⟨o, e _ _ h⟩)
  · exact .inr h
mutual
theorem Rep.same {K : PySem.W.Frag} {H H' : Hp} (e : Same H H') : ∀ {d : Dat} {v : V}, Rep K H d v → Rep K H' d v
  | .non, _, h => by simpa [Rep] using h
  | .bl _, _, h => by simpa [Rep] using h
  | .int _, _, h => by simpa [Rep] using h
  | .str _, _, h => by simpa [Rep] using h
  | .fn _, _, h => by simpa [Rep] using h
  | .scr _, _, h => by
    obtain ⟨a, h1, h2⟩ := (by simpa [Rep] using h : ∃ a, _ = V.ref a ∧ SqL K H a _)
    rw [Rep]; exact ⟨a, h1, e.seq h2⟩
  | .tup _, _, h => by
    rw [Rep] at h ⊢
    obtain ⟨a, vs, h1, h2, h3⟩ := h
    exact ⟨a, vs, h1, sqT_same e h2, RepL.same e h3⟩
  | .lst _, _, h => by
    rw [Rep] at h ⊢
    obtain ⟨a, vs, h1, h2, h3⟩ := h
    exact ⟨a, vs, h1, e _ _ h2, RepL.same e h3⟩
theorem RepL.same {K : PySem.W.Frag} {H H' : Hp} (e : Same H H') : ∀ {ds : List Dat} {vs : List V}, RepL K H ds vs → RepL K H' ds vs
  | [], _, h => by rw [RepL] at h ⊢; exact h
  | _ :: _, _, h => by
    rw [RepL] at h ⊢
    obtain ⟨v, r, h1, h2, h3⟩ := h
    exact ⟨v, r, h1, Rep.same e h2, RepL.same e h3⟩
end
theorem RepL.length {K : PySem.W.Frag} {H : Hp} : ∀ {ds : List Dat} {vs : List V}, RepL K H ds vs → vs.length = ds.length
  | [], _, h => by rw [RepL] at h; subst h; rfl
  | _ :: _, _, h => by
    rw [RepL] at h
    obtain ⟨v, r, rfl, _, h3⟩ := h
    rw [List.length_cons, List.length_cons, RepL.length h3]
theorem RepL.get {K : PySem.W.Frag} {H : Hp} : ∀ {ds : List Dat} {vs : List V} {i : Nat} {d : Dat}, RepL K H ds vs → ds[i]? = some d → ∃ v, vs[i]? = some v ∧ Rep K H d v
  | [], _, _, _, _, e => by simp at e
  | _ :: _, _, 0, _, h, e => by
    rw [RepL] at h
    obtain ⟨v, r, rfl, h2, _⟩ := h
    simp at e; subst e; exact ⟨v, rfl, h2⟩
  | _ :: _, _, i + 1, d, h, e => by
    rw [RepL] at h
    obtain ⟨v, r, rfl, _, h3⟩ := h
    obtain ⟨u, h4, h5⟩ := RepL.get (i := i) (d := d) h3 (by simpa using e)
    exact ⟨u, by simpa using h4, h5⟩
theorem RepL.nil {K : PySem.W.Frag} {H : Hp} : RepL K H [] [] := by rw [RepL]
theorem RepL.cons {K : PySem.W.Frag} {H : Hp} {d : Dat} {ds : List Dat} {v : V} {vs : List V} (h : Rep K H d v) (t : RepL K H ds vs) : RepL K H (d :: ds) (v :: vs) := by
  rw [RepL]; exact ⟨v, vs, rfl, h, t⟩
theorem RepL.append {K : PySem.W.Frag} {H : Hp} : ∀ {ds es : List Dat} {vs us : List V}, RepL K H ds vs → RepL K H es us → RepL K H (ds ++ es) (vs ++ us)
  | [], _, _, _, h, t => by rw [RepL] at h; subst h; exact t
  | _ :: _, _, _, _, h, t => by
    rw [RepL] at h
    obtain ⟨v, r, rfl, h2, h3⟩ := h
    exact RepL.cons h2 (RepL.append h3 t)
theorem RepL.drop {K : PySem.W.Frag} {H : Hp} : ∀ (n : Nat) {ds : List Dat} {vs : List V}, RepL K H ds vs → RepL K H (ds.drop n) (vs.drop n)
  | 0, _, _, h => h
  | _ + 1, [], _, h => by rw [RepL] at h; subst h; simpa using RepL.nil
  | n + 1, _ :: _, _, h => by
    rw [RepL] at h
    obtain ⟨v, r, rfl, _, h3⟩ := h
    exact RepL.drop n h3
theorem RepL.take {K : PySem.W.Frag} {H : Hp} : ∀ (n : Nat) {ds : List Dat} {vs : List V}, RepL K H ds vs → RepL K H (ds.take n) (vs.take n)
  | 0, _, _, _ => by simpa using RepL.nil
  | _ + 1, [], _, h => by rw [RepL] at h; subst h; simpa using RepL.nil
  | n + 1, _ :: _, _, h => by
    rw [RepL] at h
    obtain ⟨v, r, rfl, h2, h3⟩ := h
    exact RepL.cons h2 (RepL.take n h3)
theorem RepL.ints {K : PySem.W.Frag} {H : Hp} : ∀ {ns : List Int} {vs : List V}, RepL K H (ns.map Dat.int) vs → vs = ns.map V.int
  | [], _, h => by rw [List.map_nil, RepL] at h; subst h; rfl
  | _ :: _, _, h => by
    rw [List.map_cons, RepL] at h
    obtain ⟨v, r, rfl, h2, h3⟩ := h
    rw [Rep] at h2
    subst h2
    rw [RepL.ints h3]; rfl
inductive OD where
  | lst (l : List Dat)
  | dct (kvs : List (Dat × Dat))
noncomputable abbrev Gs := Addr → Option OD
noncomputable def g0 : Gs := fun _ => none
noncomputable def put (G : Gs) (a : Addr) (o : OD) : Gs := fun b => if b = a then some o else G b
noncomputable def rel (G : Gs) (a : Addr) : Gs := fun b => if b = a then none else G b
theorem put_same {G : Gs} {a : Addr} {o : OD} : put G a o a = some o := by simp [put]
theorem put_ne {G : Gs} {a b : Addr} {o : OD} (h : b ≠ a) : put G a o b = G b := by simp [put, h]
theorem rel_same {G : Gs} {a : Addr} : rel G a a = none := by simp [rel]
theorem rel_ne {G : Gs} {a b : Addr} (h : b ≠ a) : rel G a b = G b := by simp [rel, h]
theorem rel_put {G : Gs} {a : Addr} {o : OD} (h : G a = none) : rel (put G a o) a = G := by
  funext b; by_cases e : b = a
  · subst e; rw [rel_same, h]
  · rw [rel_ne e, put_ne e]
theorem put_put {G : Gs} {a : Addr} {o u : OD} : put (put G a o) a u = put G a u := by
  funext b; by_cases e : b = a
  · subst e; rw [put_same, put_same]
  · rw [put_ne e, put_ne e, put_ne e]
theorem put_self {G : Gs} {a : Addr} {o : OD} (h : G a = some o) : put G a o = G := by
  funext b; by_cases e : b = a
  · subst e; rw [put_same, h]
  · rw [put_ne e]
noncomputable def hid (H : Hp) (G : Gs) : Hp := fun b => if (G b).isSome then none else H b
theorem hid_get {H : Hp} {G : Gs} {b : Addr} {o : HO} (h : hid H G b = some o) : G b = none ∧ H b = some o := by
  unfold hid at h
  cases e : G b with
  | none => rw [e] at h; exact ⟨rfl, by simpa using h⟩
  | some u => rw [e] at h; simp at h
theorem hid_of {H : Hp} {G : Gs} {b : Addr} {o : HO} (h1 : G b = none) (h2 : H b = some o) : hid H G b = some o := by
  unfold hid; rw [h1]; simpa using h2
theorem hid_le {H : Hp} {G : Gs} : Same (hid H G) H := fun _ _ h => (hid_get h).2
structure Ext (H : Hp) (G : Gs) (H' : Hp) (G' : Gs) : Prop where
  keep : ∀ b o, H b = some o → G b = none → H' b = some o
  new : ∀ b, G' b ≠ none → G b ≠ none ∨ H b = none
theorem Ext.refl {H : Hp} {G : Gs} : Ext H G H G := ⟨fun _ _ h _ => h, fun _ h => .inl h⟩
theorem Ext.hid {H H' : Hp} {G G' : Gs} (e : Ext H G H' G') : Same (hid H G) (hid H' G') := fun b o h => by
  obtain ⟨h1, h2⟩ := hid_get h
  refine hid_of ?_ (e.keep b o h2 h1)
  cases q : G' b with
  | none => rfl
  | some u =>
    rcases e.new b (by rw [q]; exact nofun) with z | z
    · exact absurd h1 z
    · rw [h2] at z; cases z
theorem Ext.trans {H H1 H2 : Hp} {G G1 G2 : Gs} (a : Ext H G H1 G1) (b : Ext H1 G1 H2 G2) : Ext H G H2 G2 := by
  refine ⟨fun c o h h' => ?_, fun c h => ?_⟩
  · have h1 := a.keep c o h h'
    refine b.keep c o h1 ?_
    cases q : G1 c with
    | none => rfl
    | some u =>
      rcases a.new c (by rw [q]; exact nofun) with z | z
      · exact absurd h' z
      · rw [h] at z; cases z
  · rcases b.new c h with z | z
    · exact a.new c z
    · cases q : G c with
      | some u => exact .inl nofun
      | none =>
        right
        cases r : H c with
        | none => rfl
        | some o => rw [a.keep c o r q] at z; cases z
theorem Ext.alloc {H : Hp} {G : Gs} {p : Addr} {o : HO} (h : H p = none) : Ext H G (upd H p o) G :=
  ⟨fun b u e _ => by rw [upd_ne (ne_of_none e h)]; exact e, fun _ h => .inl h⟩
noncomputable def keyD : Nat → Dat → Bool
  | _, .int _ => true
  | n + 1, .tup l => l.all (keyD n)
  | _, _ => false
mutual
noncomputable def hashD : Dat → Int
  | .int i => hashInt i
  | .tup l => reduceHash (Builtin.Tuple.tupleHashOf (hashL l))
  | _ => 0
noncomputable def hashL : List Dat → List Int
  | [] => []
  | d :: r => hashD d :: hashL r
end
noncomputable def entD (x : Dat × Addr × Value) : DictEntry := ⟨hashD x.1, .ref x.2.1, x.2.2⟩
noncomputable def DictAt (a : Addr) (xs : List (Dat × Addr × Value)) (h : Heap) : Prop :=
  (a == sysModules) = false ∧ xs.length ≤ sizeLine ∧ (xs.map (·.1)).Nodup ∧ ∃ o es ep, h.get? a = some o ∧ o.ExactDict ∧ o.data = .dict es ep ∧ es.toList = xs.map entD
noncomputable def dctO (a : Addr) (xs : List (Dat × Addr × Value)) : HO := .ext (DictAt a xs)
noncomputable def DRep (K : PySem.W.Frag) (H : Hp) : List (Dat × Dat) → List (Dat × Addr × Value) → Prop
  | [], xs => xs = []
  | (k, d) :: r, xs => ∃ a u xs', xs = (k, a, u) :: xs' ∧ keyD 6 k = true ∧ Rep K H k (.ref a) ∧ (∃ v, RelV v u ∧ Rep K H d v) ∧ DRep K H r xs'
theorem DRep.same {K : PySem.W.Frag} {H H' : Hp} (e : Same H H') : ∀ {kvs : List (Dat × Dat)} {xs : List (Dat × Addr × Value)}, DRep K H kvs xs → DRep K H' kvs xs
  | [], _, h => h
  | _ :: _, _, ⟨a, u, xs', h1, h2, h3, ⟨v, h4, h5⟩, h6⟩ => ⟨a, u, xs', h1, h2, h3.same e, ⟨v, h4, h5.same e⟩, DRep.same e h6⟩
section
variable (K : PySem.W.Frag)
noncomputable def OwnOk (H : Hp) (G : Gs) (a : Addr) : OD → Prop
  | .lst l => ∃ vs, H a = some (.lst vs) ∧ RepL K (hid H G) l vs
  | .dct kvs => ∃ xs, H a = some (dctO a xs) ∧ DRep K (hid H G) kvs xs
noncomputable def GOk (H : Hp) (G : Gs) : Prop := ∀ a o, G a = some o → OwnOk K H G a o
end
section
variable {K : PySem.W.Frag} {H H' : Hp} {G G' : Gs} {a p : Addr}
theorem OwnOk.there {o : OD} (h : OwnOk K H G a o) : ∃ u, H a = some u := by
  cases o with
  | lst l => obtain ⟨vs, h, _⟩ := h; exact ⟨_, h⟩
  | dct kvs => obtain ⟨xs, h, _⟩ := h; exact ⟨_, h⟩
theorem OwnOk.ext {o : OD} (h : OwnOk K H G a o) (e : Same (hid H G) (hid H' G')) (q : H' a = H a) : OwnOk K H' G' a o := by
  cases o with
  | lst l =>
    obtain ⟨vs, h1, h2⟩ := h
    exact ⟨vs, q.trans h1, h2.same e⟩
  | dct kvs =>
    obtain ⟨xs, h1, h2⟩ := h
    exact ⟨xs, q.trans h1, h2.same e⟩
theorem GOk.free (h : GOk K H G) (hp : H p = none) : G p = none := by
  cases q : G p with
  | none => rfl
  | some o => obtain ⟨u, e⟩ := (h p o q).there; rw [hp] at e; cases e
theorem GOk.alloc {o : HO} (h : GOk K H G) (hp : H p = none) : GOk K (upd H p o) G := fun b u q =>
  (h b u q).ext (Ext.alloc hp).hid (upd_ne (by rintro rfl; rw [h.free hp] at q; cases q))
theorem g0_ok : GOk K H g0 := fun _ _ h => nomatch h
theorem hid_g0 : hid H g0 = H := by funext b; simp [hid, g0]
end
noncomputable abbrev Rho := List (Option Dat)
structure Stt (X : Cx) (H : Hp) (σ : St) (ρ : Rho) (G : Gs) : Prop where
  env : ∀ (i : Nat) d, ρ[i]? = some (some d) → ∃ v, σ[i]? = some (some v) ∧ Rep X.K (hid H G) d v
  len : ρ.length = σ.length
  own : GOk X.K H G
theorem Stt.ext {X : Cx} {H H' : Hp} {σ : St} {ρ : Rho} {G G' : Gs} (S : Stt X H σ ρ G) (e : Ext H G H' G') (o : GOk X.K H' G') : Stt X H' σ ρ G' :=
  ⟨fun i d h => let ⟨v, h1, h2⟩ := S.env i d h; ⟨v, h1, h2.same e.hid⟩, S.len, o⟩
theorem Stt.set {X : Cx} {H : Hp} {σ : St} {ρ : Rho} {G : Gs} {i : Nat} {d : Dat} {v : V} (S : Stt X H σ ρ G) (r : Rep X.K (hid H G) d v) : Stt X H (σ.set i (some v)) (ρ.set i (some d)) G := by
  refine ⟨fun j e h => ?_, by rw [List.length_set, List.length_set, S.len], S.own⟩
  by_cases hj : i = j
  · subst hj
    have hl : i < ρ.length := by
      have := (List.getElem?_eq_some_iff.mp h).1
      rwa [List.length_set] at this
    rw [List.getElem?_set_self hl] at h
    cases h
    exact ⟨v, by rw [List.getElem?_set_self (by rw [← S.len]; exact hl)], r⟩
  · rw [List.getElem?_set_ne hj] at h
    rw [List.getElem?_set_ne hj]
    exact S.env j e h
section
variable (X : Cx)
noncomputable def Po (H : Hp) (G : Gs) (Q : Dat → Gs → Prop) : VK := fun v H' => ∃ d G', Ext H G H' G' ∧ GOk X.K H' G' ∧ Rep X.K (hid H' G') d v ∧ Q d G'
noncomputable def PoT (H : Hp) (G : Gs) (Q : Bool → Gs → Prop) : Bool → Hp → Prop := fun b H' => ∃ G', Ext H G H' G' ∧ GOk X.K H' G' ∧ Q b G'
noncomputable def PoA (H : Hp) (G : Gs) (Q : List Dat → Gs → Prop) : List V → Hp → Prop := fun vs H' => ∃ ds G', Ext H G H' G' ∧ GOk X.K H' G' ∧ RepL X.K (hid H' G') ds vs ∧ Q ds G'
noncomputable def WE (ρ : Rho) (G : Gs) (e : Expr) (Q : Dat → Gs → Prop) : Prop :=
  ∀ (pins : List (Addr × Obj)) (s : Shared) (σ : St) (H : Hp), Inv X pins σ H s → Stt X H σ ρ G → wpAny (model X.prog X.w) X.A (eval e X.env) (EP X pins σ (Po X H G Q)) X.xe s
noncomputable def WT (ρ : Rho) (G : Gs) (e : Expr) (Q : Bool → Gs → Prop) : Prop :=
  ∀ (pins : List (Addr × Obj)) (s : Shared) (σ : St) (H : Hp), Inv X pins σ H s → Stt X H σ ρ G → wpAny (model X.prog X.w) X.A (isTrue e X.env (eval e X.env)) (TP X pins σ (PoT X H G Q)) X.xe s
noncomputable def WA (ρ : Rho) (G : Gs) (es : List Expr) (Q : List Dat → Gs → Prop) : Prop :=
  ∀ (pos : Pos) (pins : List (Addr × Obj)) (s : Shared) (σ : St) (H : Hp), Inv X pins σ H s → Stt X H σ ρ G → wpAny (model X.prog X.w) X.A (spliced (backTo pos (starEach es X.env))) (AP X pins σ (PoA X H G Q)) X.xe s
noncomputable def PX (ρ : Rho) (G : Gs) (e : Expr) (d : Dat) : Prop := WE X ρ G e fun d' G' => d' = d ∧ G' = G
noncomputable def PXT (ρ : Rho) (G : Gs) (e : Expr) (b : Bool) : Prop := WT X ρ G e fun b' G' => b' = b ∧ G' = G
noncomputable def PXs (ρ : Rho) (G : Gs) (es : List Expr) (ds : List Dat) : Prop := WA X ρ G es fun d' G' => d' = ds ∧ G' = G
end
theorem EP.mono {X : Cx} {pins : List (Addr × Obj)} {σ : St} {Q Q' : VK} {u : Value} {s : Shared} (h : EP X pins σ Q u s) (k : ∀ v H, Q v H → Q' v H) : EP X pins σ Q' u s :=
  let ⟨v, H, I, r, q⟩ := h; ⟨v, H, I, r, k v H q⟩
theorem TP.mono {X : Cx} {pins : List (Addr × Obj)} {σ : St} {Q Q' : Bool → Hp → Prop} {u : Bool} {s : Shared} (h : TP X pins σ Q u s) (k : ∀ v H, Q v H → Q' v H) : TP X pins σ Q' u s :=
  let ⟨H, I, q⟩ := h; ⟨H, I, k _ H q⟩
theorem AP.mono {X : Cx} {pins : List (Addr × Obj)} {σ : St} {Q Q' : List V → Hp → Prop} {u : List Value} {s : Shared} (h : AP X pins σ Q u s) (k : ∀ v H, Q v H → Q' v H) : AP X pins σ Q' u s :=
  let ⟨v, H, I, r, q⟩ := h; ⟨v, H, I, r, k v H q⟩
theorem Po.mono {X : Cx} {H : Hp} {G : Gs} {Q Q' : Dat → Gs → Prop} {v : V} {H' : Hp} (h : Po X H G Q v H') (k : ∀ d G', Q d G' → Q' d G') : Po X H G Q' v H' :=
  let ⟨d, G', e, o, r, q⟩ := h; ⟨d, G', e, o, r, k d G' q⟩
theorem Po.trans {X : Cx} {H H1 : Hp} {G G1 : Gs} {Q : Dat → Gs → Prop} {v : V} {H' : Hp} (e : Ext H G H1 G1) (h : Po X H1 G1 Q v H') : Po X H G Q v H' :=
  let ⟨d, G', e', o, r, q⟩ := h; ⟨d, G', e.trans e', o, r, q⟩
theorem PoT.trans {X : Cx} {H H1 : Hp} {G G1 : Gs} {Q : Bool → Gs → Prop} {v : Bool} {H' : Hp} (e : Ext H G H1 G1) (h : PoT X H1 G1 Q v H') : PoT X H G Q v H' :=
  let ⟨G', e', o, q⟩ := h; ⟨G', e.trans e', o, q⟩
theorem PoA.trans {X : Cx} {H H1 : Hp} {G G1 : Gs} {Q : List Dat → Gs → Prop} {v : List V} {H' : Hp} (e : Ext H G H1 G1) (h : PoA X H1 G1 Q v H') : PoA X H G Q v H' :=
  let ⟨d, G', e', o, r, q⟩ := h; ⟨d, G', e.trans e', o, r, q⟩
section
variable {X : Cx} {ρ : Rho} {G : Gs} {e a b : Expr} {es : List Expr} {d d' d1 d2 : Dat} {ds : List Dat} {pos : Pos}
theorem we_pe {t : TE} {Q : Dat → Gs → Prop} (h : PE X e t) (hq : ∀ σ H, Stt X H σ ρ G → t σ H (Po X H G Q)) : WE X ρ G e Q := fun pins s σ H I S => h pins s σ H _ I (hq σ H S)
noncomputable def tW (X : Cx) (e : Expr) : TE := fun σ H Q' => ∃ ρ G R, WE X ρ G e R ∧ Stt X H σ ρ G ∧ ∀ v H', Po X H G R v H' → Q' v H'
theorem pe_we : PE X e (tW X e) := fun pins s σ H Q I ⟨_, _, _, h, S, k⟩ => thn (h pins s σ H I S) fun _ _ q => EP.mono q k
theorem wt_pt {t : TT} {Q : Bool → Gs → Prop} (h : PT X e t) (hq : ∀ σ H, Stt X H σ ρ G → t σ H (PoT X H G Q)) : WT X ρ G e Q := fun pins s σ H I S => h pins s σ H _ I (hq σ H S)
theorem wa_pa {t : TA} {Q : List Dat → Gs → Prop} (h : PA X es t) (hq : ∀ σ H, Stt X H σ ρ G → t σ H (PoA X H G Q)) : WA X ρ G es Q := fun pos pins s σ H I S => h pos pins s σ H _ I (hq σ H S)
noncomputable def tWA (X : Cx) (es : List Expr) : TA := fun σ H Q' => ∃ ρ G R, WA X ρ G es R ∧ Stt X H σ ρ G ∧ ∀ v H', PoA X H G R v H' → Q' v H'
theorem pa_wa : PA X es (tWA X es) := fun pos pins s σ H Q I ⟨_, _, _, h, S, k⟩ => thn (h pos pins s σ H I S) fun _ _ q => AP.mono q k
theorem WE.mono {Q Q' : Dat → Gs → Prop} (h : WE X ρ G e Q) (k : ∀ d G', Q d G' → Q' d G') : WE X ρ G e Q' := fun pins s σ H I S => thn (h pins s σ H I S) fun _ _ q => EP.mono q fun _ _ z => Po.mono z k
theorem PX.we {Q : Dat → Gs → Prop} (h : PX X ρ G e d) (q : Q d G) : WE X ρ G e Q := WE.mono h fun _ _ ⟨h1, h2⟩ => by subst h1; subst h2; exact q
theorem PX.cast (h : PX X ρ G e d) (q : d = d') : PX X ρ G e d' := q ▸ h
theorem po1 {H H' : Hp} {v : V} (e : Ext H G H' G) (o : GOk X.K H' G) (r : Rep X.K (hid H' G) d v) : Po X H G (fun d' G' => d' = d ∧ G' = G) v H' := ⟨d, G, e, o, r, rfl, rfl⟩
theorem po1' {H : Hp} {v : V} (o : GOk X.K H G) (r : Rep X.K (hid H G) d v) : Po X H G (fun d' G' => d' = d ∧ G' = G) v H := po1 Ext.refl o r
theorem px_var (i : Nat) {x : Str} (hi : ρ[i]? = some (some d)) (hN : X.N[i]? = some x := by rfl) (hv : Vis X.env.scope x := by first | exact Or.inl rfl | exact Or.inr (Or.inl rfl) | exact Or.inr (Or.inr rfl)) (hd : (x == ("__debug__" : Str)) = false := by decide)
    (hcd : (x == ("__classdict__" : Str)) = false := by decide) : PX X ρ G (.Name x pos) d :=
  we_pe (pe_var hN hv hd hcd) fun σ H S => let ⟨v, h1, h2⟩ := S.env i d hi; ⟨v, h1, po1' S.own h2⟩
theorem px_int {i : Int} {j} : PX X ρ G (.Constant (.int i) j pos) (.int i) := we_pe pe_int fun σ H S => po1' S.own rfl
theorem px_bl {i : Bool} {j} : PX X ρ G (.Constant (.bool i) j pos) (.bl i) := we_pe pe_bl fun σ H S => po1' S.own rfl
theorem px_str {x : Str} {j} : PX X ρ G (.Constant (.str x) j pos) (.str x) := we_pe pe_str fun σ H S => po1' S.own rfl
theorem px_op {op : Operator} {r : R2} (ho : OpR X (binaryOp op) r) (ha : PX X ρ G a d1) (hb : PX X ρ G b d2)
    (hr : ∀ (H : Hp) (x y : V) (Q : VK), GOk X.K H G → Rep X.K (hid H G) d1 x → Rep X.K (hid H G) d2 y → (∀ v H', Po X H G (fun d' G' => d' = d ∧ G' = G) v H' → Q v H') → r x y H Q) : PX X ρ G (.BinOp a op b pos) d :=
  we_pe (pe_op ho pe_we pe_we) fun σ H S => ⟨ρ, G, _, ha, S, fun x H1 ⟨_, _, e1, o1, r1, q1, q1'⟩ => by
    subst q1; subst q1'
    refine ⟨ρ, _, _, hb, S.ext e1 o1, fun y H2 ⟨_, _, e2, o2, r2, q2, q2'⟩ => ?_⟩
    subst q2; subst q2'
    exact hr H2 x y _ o2 (r1.same e2.hid) r2 fun v H' z => Po.trans (e1.trans e2) z⟩
end
end TF
namespace TF
open PySem PySem.Spec L2
open PyProof.Rows hiding St RelV
mutual
noncomputable def eqD : Dat → Dat → Bool
  | .non, .non => true
  | .bl a, .bl b => a == b
  | .bl a, .int b => (if a then 1 else 0) == b
  | .int a, .bl b => a == (if b then 1 else 0)
  | .int a, .int b => a == b
  | .str a, .str b => a == b
  | .tup l, .tup m => eqL l m
  | .lst l, .lst m => eqL l m
  | _, _ => false
noncomputable def eqL : List Dat → List Dat → Bool
  | [], [] => true
  | x :: xs, y :: ys => eqD x y && eqL xs ys
  | _, _ => false
end
noncomputable def flatD : Dat → Bool
  | .non => true | .bl _ => true | .int _ => true | .str _ => true | _ => false
noncomputable def plainD : Nat → Dat → Bool
  | 0, d => flatD d
  | n + 1, .tup l => l.all (plainD n)
  | n + 1, .lst l => l.all (plainD n)
  | _ + 1, d => flatD d
theorem plainD_flat {d : Dat} (h : flatD d = true) : ∀ n, plainD n d = true
  | 0 => h
  | n + 1 => by cases d <;> first | exact h | (simp [flatD] at h)
theorem eqD_refl : ∀ (n : Nat) (d : Dat), plainD n d = true → eqD d d = true := by
  intro n
  induction n with
  | zero => intro d h; cases d <;> simp_all [plainD, flatD, eqD]
  | succ n ih =>
    have hl : ∀ l : List Dat, l.all (plainD n) = true → eqL l l = true := by
      intro l
      induction l with
      | nil => intro _; simp [eqL]
      | cons x r ihr =>
        intro h
        simp only [List.all_cons, Bool.and_eq_true] at h
        simp only [eqL, Bool.and_eq_true]
        exact ⟨ih x h.1, ihr h.2⟩
    intro d h
    cases d <;> simp_all [plainD, flatD, eqD]
theorem eqL_range : ∀ (l m : List Dat), eqL l m = ((List.range (min l.length m.length)).all (fun j => match l[j]?, m[j]? with | some x, some y => eqD x y | _, _ => true) && l.length == m.length)
  | [], [] => by simp [eqL]
  | [], _ :: _ => by simp [eqL]
  | _ :: _, [] => by simp [eqL]
  | x :: l, y :: m => by
    rw [eqL, eqL_range l m, List.length_cons, List.length_cons, Nat.succ_min_succ, List.range_succ_eq_map, List.all_cons, List.all_map]
    simp only [List.getElem?_cons_zero, Function.comp_def, List.getElem?_cons_succ, Nat.succ_eq_add_one, Bool.and_assoc]
    congr 2
    rw [Bool.eq_iff_iff]; simp
mutual
noncomputable def AtH (h : Heap) : Dat → Value → Prop
  | .non, u => u = .none
  | .bl b, u => u = .bool b
  | .int i, u => ∃ t, u = .int i t
  | .str x, u => ∃ t, u = .str x t
  | .fn a, u => u = .ref a
  | .scr _, _ => False
  | .tup l, u => ∃ a its, u = .ref a ∧ h.IsTuple a its.toArray ∧ AtL h l its
  | .lst l, u => ∃ a its, u = .ref a ∧ h.IsList a its.toArray ∧ AtL h l its
noncomputable def AtL (h : Heap) : List Dat → List Value → Prop
  | [], us => us = []
  | d :: ds, us => ∃ u r, us = u :: r ∧ AtH h d u ∧ AtL h ds r
end
theorem AtL.length {h : Heap} : ∀ {ds : List Dat} {us : List Value}, AtL h ds us → us.length = ds.length
  | [], _, r => by rw [AtL] at r; subst r; rfl
  | _ :: _, _, r => by
    rw [AtL] at r
    obtain ⟨u, r, rfl, _, h3⟩ := r
    rw [List.length_cons, List.length_cons, AtL.length h3]
theorem AtL.get {h : Heap} : ∀ {ds : List Dat} {us : List Value} {i : Nat} {d : Dat}, AtL h ds us → ds[i]? = some d → ∃ u, us[i]? = some u ∧ AtH h d u
  | [], _, _, _, _, e => by simp at e
  | _ :: _, _, 0, _, r, e => by
    rw [AtL] at r
    obtain ⟨u, r, rfl, h2, _⟩ := r
    simp at e; subst e; exact ⟨u, rfl, h2⟩
  | _ :: _, _, i + 1, d, r, e => by
    rw [AtL] at r
    obtain ⟨u, r, rfl, _, h3⟩ := r
    obtain ⟨u', h4, h5⟩ := AtL.get (i := i) (d := d) h3 (by simpa using e)
    exact ⟨u', by simpa using h4, h5⟩
section
variable {X : Cx} {pins : List (Addr × Obj)} {σ : St} {H : Hp} {s : Shared}
mutual
theorem Rep.at (I : Inv X pins σ H s) : ∀ {d : Dat} {v : V} {u : Value} {n : Nat}, plainD n d = true → Rep X.K H d v → RelV v u → AtH s.heap d u
  | .non, _, _, _, _, r, q => by rw [Rep] at r; subst r; cases q; rw [AtH]
  | .bl _, _, _, _, _, r, q => by rw [Rep] at r; subst r; cases q; rw [AtH]
  | .int _, _, _, _, _, r, q => by rw [Rep] at r; subst r; rw [AtH]; exact q
  | .str _, _, _, _, _, r, q => by rw [Rep] at r; subst r; rw [AtH]; exact q
  | .fn _, _, _, _, _, r, q => by rw [Rep] at r; subst r; cases q; rw [AtH]
  | .scr _, _, _, n, p, _, _ => by cases n <;> simp [plainD, flatD] at p
  | .tup l, _, _, n, p, r, q => by
    rw [Rep] at r
    obtain ⟨a, vs, rfl, h1, h2⟩ := r
    cases q
    obtain ⟨its, rv, ht, _⟩ := I.tuple h1
    rw [AtH]
    refine ⟨a, its, rfl, ht, ?_⟩
    cases n with
    | zero => simp [plainD, flatD] at p
    | succ n => exact RepL.at I (n := n) (by simpa [plainD] using p) h2 rv
  | .lst l, _, _, n, p, r, q => by
    rw [Rep] at r
    obtain ⟨a, vs, rfl, h1, h2⟩ := r
    cases q
    obtain ⟨its, rv, ht, _⟩ := I.list (SqL.of h1)
    rw [AtH]
    refine ⟨a, its, rfl, ht.isList, ?_⟩
    cases n with
    | zero => simp [plainD, flatD] at p
    | succ n => exact RepL.at I (n := n) (by simpa [plainD] using p) h2 rv
theorem RepL.at (I : Inv X pins σ H s) : ∀ {ds : List Dat} {vs : List V} {us : List Value} {n : Nat}, ds.all (plainD n) = true → RepL X.K H ds vs → Vals vs us → AtL s.heap ds us
  | [], _, _, _, _, r, q => by rw [RepL] at r; subst r; cases q; rw [AtL]
  | d :: ds, _, _, n, p, r, q => by
    rw [RepL] at r
    obtain ⟨v, r, rfl, h1, h2⟩ := r
    cases q with
    | cons q1 q2 =>
      simp only [List.all_cons, Bool.and_eq_true] at p
      rw [AtL]
      exact ⟨_, _, rfl, Rep.at I p.1 h1 q1, RepL.at I p.2 h2 q2⟩
end
end
theorem AtH.flat {h : Heap} {d : Dat} {u : Value} (r : AtH h d u) (f : flatD d = true) : ∃ v, RelV v u ∧ flatV v = true ∧ ∀ (d' : Dat) (u' : Value) (v' : V), flatD d' = true → AtH h d' u' → RelV v' u' → eqV v v' = eqD d d' := by
  cases d <;> simp only [flatD, Bool.false_eq_true] at f <;> rw [AtH] at r
  · subst r
    refine ⟨.non, rfl, rfl, fun d' u' v' f' r' q' => ?_⟩
    cases d' <;> simp only [flatD, Bool.false_eq_true] at f' <;> rw [AtH] at r' <;> first | (subst r'; cases v' <;> simp_all [RelV, eqV, eqD]; done) | (obtain ⟨t, rfl⟩ := r'; cases v' <;> simp_all [RelV, eqV, eqD])
  · subst r
    refine ⟨.bl _, rfl, rfl, fun d' u' v' f' r' q' => ?_⟩
    cases d' <;> simp only [flatD, Bool.false_eq_true] at f' <;> rw [AtH] at r' <;> first | (subst r'; cases v' <;> simp_all [RelV, eqV, eqD]; done) | (obtain ⟨t, rfl⟩ := r'; cases v' <;> simp_all [RelV, eqV, eqD])
  · refine ⟨.int _, r, rfl, fun d' u' v' f' r' q' => ?_⟩
    cases d' <;> simp only [flatD, Bool.false_eq_true] at f' <;> rw [AtH] at r' <;> first | (subst r'; cases v' <;> simp_all [RelV, eqV, eqD]; done) | (obtain ⟨t, rfl⟩ := r'; cases v' <;> simp_all [RelV, eqV, eqD])
  · refine ⟨.str _, r, rfl, fun d' u' v' f' r' q' => ?_⟩
    cases d' <;> simp only [flatD, Bool.false_eq_true] at f' <;> rw [AtH] at r' <;> first | (subst r'; cases v' <;> simp_all [RelV, eqV, eqD]; done) | (obtain ⟨t, rfl⟩ := r'; cases v' <;> simp_all [RelV, eqV, eqD])
theorem not_both {h : Heap} {a : Addr} {xs ys : Array Value} (h1 : h.IsTuple a xs) (h2 : h.IsList a ys) : False := by
  obtain ⟨o, e, c, _⟩ := h1
  obtain ⟨o', e', c', _⟩ := h2
  rw [e] at e'; cases e'
  rw [c] at c'; exact absurd c' (by decide)
theorem tuple_one {h : Heap} {a : Addr} {xs ys : List Value} (h1 : h.IsTuple a xs.toArray) (h2 : h.IsTuple a ys.toArray) : xs = ys := by
  obtain ⟨o, e, c, n, d⟩ := h1
  obtain ⟨o', e', c', n', d'⟩ := h2
  rw [e] at e'; cases e'
  rw [d] at d'
  injection d' with d1 _
  simpa using congrArg Array.toList d1
theorem list_one {h : Heap} {a : Addr} {xs ys : List Value} (h1 : h.IsList a xs.toArray) (h2 : h.IsList a ys.toArray) : xs = ys := by
  obtain ⟨o, e, c, n, d⟩ := h1
  obtain ⟨o', e', c', n', d'⟩ := h2
  rw [e] at e'; cases e'
  rw [d] at d'
  injection d' with d1 _
  simpa using congrArg Array.toList d1
theorem AtH.inj {h : Heap} : ∀ (n : Nat) {d d' : Dat} {u : Value}, plainD n d = true → plainD n d' = true → AtH h d u → AtH h d' u → d = d' := by
  have flat : ∀ {d d' : Dat} {u : Value}, flatD d = true → flatD d' = true → AtH h d u → AtH h d' u → d = d' := by
    intro d d' u f f' r r'
    cases d <;> simp only [flatD, Bool.false_eq_true] at f <;> cases d' <;> simp only [flatD, Bool.false_eq_true] at f' <;> simp only [AtH] at r r' <;>
      first
      | rfl
      | (subst r; cases r'; rfl)
      | (obtain ⟨t, rfl⟩ := r; obtain ⟨t', e⟩ := r'; cases e; rfl)
      | (exfalso; subst r; cases r'; done)
      | (exfalso; subst r; obtain ⟨t', e⟩ := r'; cases e; done)
      | (exfalso; obtain ⟨t, rfl⟩ := r; cases r'; done)
      | (exfalso; obtain ⟨t, rfl⟩ := r; obtain ⟨t', e⟩ := r'; cases e; done)
  have cross : ∀ {d : Dat} {u : Value} {a : Addr}, flatD d = true → AtH h d u → u = .ref a → False := by
    intro d u a f r e
    subst e
    cases d <;> simp only [flatD, Bool.false_eq_true] at f <;> rw [AtH] at r <;> first | (cases r; done) | (obtain ⟨t, e⟩ := r; cases e; done)
  intro n
  induction n with
  | zero => intro d d' u h h' r r'; exact flat h h' r r'
  | succ n ih =>
    have hl : ∀ (l m : List Dat) (us : List Value), l.all (plainD n) = true → m.all (plainD n) = true → AtL h l us → AtL h m us → l = m := by
      intro l
      induction l with
      | nil =>
        intro m us _ _ r r'
        rw [AtL] at r; subst r
        cases m with
        | nil => rfl
        | cons y m => rw [AtL] at r'; obtain ⟨_, _, e, _⟩ := r'; cases e
      | cons x l ihl =>
        intro m us h h' r r'
        rw [AtL] at r
        obtain ⟨v, rr, rfl, r1, r2⟩ := r
        cases m with
        | nil => rw [AtL] at r'; cases r'
        | cons y m =>
          rw [AtL] at r'
          obtain ⟨v', rr', e, r1', r2'⟩ := r'
          cases e
          simp only [List.all_cons, Bool.and_eq_true] at h h'
          rw [ih h.1 h'.1 r1 r1', ihl m _ h.2 h'.2 r2 r2']
    intro d d' u h h' r r'
    by_cases f : flatD d = true
    · by_cases f' : flatD d' = true
      · exact flat f f' r r'
      · exfalso
        cases d' <;> simp [plainD, flatD] at h' f'
        · rw [AtH] at r'; obtain ⟨a, _, e, _⟩ := r'; exact cross f r e
        · rw [AtH] at r'; obtain ⟨a, _, e, _⟩ := r'; exact cross f r e
    · by_cases f' : flatD d' = true
      · exfalso
        cases d <;> simp [plainD, flatD] at h f
        · rw [AtH] at r; obtain ⟨a, _, e, _⟩ := r; exact cross f' r' e
        · rw [AtH] at r; obtain ⟨a, _, e, _⟩ := r; exact cross f' r' e
      · cases d <;> simp [plainD, flatD] at h f <;> cases d' <;> simp [plainD, flatD] at h' f' <;> simp only [AtH] at r r' <;> obtain ⟨a, xs, e1, t1, l1⟩ := r <;> obtain ⟨b, ys, e2, t2, l2⟩ := r' <;> subst e1 <;> cases e2
        · have := tuple_one t1 t2
          subst this
          rw [hl _ _ _ (List.all_eq_true.mpr h) (List.all_eq_true.mpr h') l1 l2]
        · exact (not_both t1 t2).elim
        · exact (not_both t2 t1).elim
        · have := list_one t1 t2
          subst this
          rw [hl _ _ _ (List.all_eq_true.mpr h) (List.all_eq_true.mpr h') l1 l2]
theorem Rep.inj {X : Cx} {pins : List (Addr × Obj)} {σ : St} {H : Hp} {s : Shared} (I : Inv X pins σ H s) (n : Nat) {d d' : Dat} {v : V} {u : Value} (h : plainD n d = true) (h' : plainD n d' = true) (r : Rep X.K H d v) (r' : Rep X.K H d' v) (q : RelV v u) : d = d' :=
  AtH.inj n h h' (r.at I h q) (r'.at I h' q)
theorem eqAt_D {s : Shared} : ∀ (n : Nat) {A : Around} {d e : Dat} {u v : Value}, plainD n d = true → plainD n e = true → AtH s.heap d u → AtH s.heap e v → A.units + n < cLine →
    SeqAt.EqAt A s u v (eqD d e) ∧ SeqAt.RcAt A s u v (eqD d e) := by
  have flats : ∀ {A : Around} {d e : Dat} {u v : Value}, flatD d = true → flatD e = true → AtH s.heap d u → AtH s.heap e v → SeqAt.EqAt A s u v (eqD d e) ∧ SeqAt.RcAt A s u v (eqD d e) := by
    intro A d e u v fd fe rd re
    constructor
    · obtain ⟨x, hx, fx, h1⟩ := AtH.flat rd fd
      obtain ⟨y, hy, fy, _⟩ := AtH.flat re fe
      rw [← h1 e v y fe re hy]
      exact eqAt_V hx hy fx fy
    · cases d <;> simp only [flatD, Bool.false_eq_true] at fd <;> cases e <;> simp only [flatD, Bool.false_eq_true] at fe <;> simp only [AtH] at rd re <;> simp only [eqD]
      · subst rd; subst re; exact SeqAt.RcAt.none_none
      · subst rd; subst re; exact SeqAt.RcAt.none_bool _
      · subst rd; obtain ⟨_, rfl⟩ := re; exact SeqAt.RcAt.none_int _ _
      · subst rd; obtain ⟨_, rfl⟩ := re; exact SeqAt.RcAt.none_str _ _
      · subst rd; subst re; exact SeqAt.RcAt.bool_none _
      · subst rd; subst re; exact SeqAt.RcAt.bool_bool _ _
      · subst rd; obtain ⟨_, rfl⟩ := re; exact SeqAt.RcAt.bool_int _ _ _
      · subst rd; obtain ⟨_, rfl⟩ := re; exact SeqAt.RcAt.bool_str _ _ _
      · obtain ⟨_, rfl⟩ := rd; subst re; exact SeqAt.RcAt.int_none _ _
      · obtain ⟨_, rfl⟩ := rd; subst re; exact SeqAt.RcAt.int_bool _ _ _
      · obtain ⟨_, rfl⟩ := rd; obtain ⟨_, rfl⟩ := re; exact SeqAt.RcAt.int_int _ _ _ _
      · obtain ⟨_, rfl⟩ := rd; obtain ⟨_, rfl⟩ := re; exact SeqAt.RcAt.int_str _ _ _ _
      · obtain ⟨_, rfl⟩ := rd; subst re; exact SeqAt.RcAt.str_none _ _
      · obtain ⟨_, rfl⟩ := rd; subst re; exact SeqAt.RcAt.str_bool _ _ _
      · obtain ⟨_, rfl⟩ := rd; obtain ⟨_, rfl⟩ := re; exact SeqAt.RcAt.str_int _ _ _ _
      · obtain ⟨_, rfl⟩ := rd; obtain ⟨_, rfl⟩ := re; exact SeqAt.RcAt.str_str _ _ _ _
  intro n
  induction n with
  | zero => intro A d e u v hd he rd re _; exact flats hd he rd re
  | succ n ih =>
    intro A d e u v hd he rd re hu
    have hu0 : A.units < cLine := by omega
    have items : ∀ (l m : List Dat) (is js : List Value), l.all (plainD n) = true → m.all (plainD n) = true → AtL s.heap l is → AtL s.heap m js →
        ∀ j (h1 : j < is.toArray.size) (h2 : j < js.toArray.size), SeqAt.EqAt A.in1 s is.toArray[j] js.toArray[j] ((fun j => match l[j]?, m[j]? with | some x, some y => eqD x y | _, _ => true) j) := by
      intro l m is js hl hm rl rm j h1 h2
      have h1' : j < is.length := by simpa using h1
      have h2' : j < js.length := by simpa using h2
      have l1 : j < l.length := by rw [← rl.length]; exact h1'
      have l2 : j < m.length := by rw [← rm.length]; exact h2'
      obtain ⟨u1, f1, q1⟩ := rl.get (List.getElem?_eq_getElem l1)
      obtain ⟨u2, f2, q2⟩ := rm.get (List.getElem?_eq_getElem l2)
      rw [List.getElem?_eq_getElem h1'] at f1
      rw [List.getElem?_eq_getElem h2'] at f2
      cases f1
      cases f2
      have hx : plainD n l[j] = true := List.all_eq_true.mp hl _ (List.getElem_mem l1)
      have hy : plainD n m[j] = true := List.all_eq_true.mp hm _ (List.getElem_mem l2)
      have := (ih (A := A.in1) hx hy q1 q2 (by show A.units + 1 + n < cLine; omega)).1
      simpa [List.getElem?_eq_getElem l1, List.getElem?_eq_getElem l2] using this
    by_cases fd : flatD d = true
    · by_cases fe : flatD e = true
      · exact flats fd fe rd re
      · cases e <;> simp [plainD, flatD] at he fe
        · rw [AtH] at re
          obtain ⟨b, js, rfl, tj, rm⟩ := re
          cases d <;> simp only [flatD, Bool.false_eq_true] at fd <;> rw [AtH] at rd
          · subst rd; exact ⟨.none_tuple tj hu0, .none_tuple tj hu0⟩
          · subst rd; exact ⟨.bool_tuple _ tj hu0, .bool_tuple _ tj hu0⟩
          · obtain ⟨t, rfl⟩ := rd; exact ⟨.int_tuple _ _ tj hu0, .int_tuple _ _ tj hu0⟩
          · obtain ⟨t, rfl⟩ := rd; exact ⟨.str_tuple _ _ tj hu0, .str_tuple _ _ tj hu0⟩
        · rw [AtH] at re
          obtain ⟨b, js, rfl, tj, rm⟩ := re
          cases d <;> simp only [flatD, Bool.false_eq_true] at fd <;> rw [AtH] at rd
          · subst rd; exact ⟨.none_list tj hu0, .none_list tj hu0⟩
          · subst rd; exact ⟨.bool_list _ tj hu0, .bool_list _ tj hu0⟩
          · obtain ⟨t, rfl⟩ := rd; exact ⟨.int_list _ _ tj hu0, .int_list _ _ tj hu0⟩
          · obtain ⟨t, rfl⟩ := rd; exact ⟨.str_list _ _ tj hu0, .str_list _ _ tj hu0⟩
    · cases d with
      | tup l =>
        have rd' := rd
        rw [AtH] at rd
        obtain ⟨a, is, rfl, ti, rl⟩ := rd
        cases e with
        | tup m =>
          have re' := re
          rw [AtH] at re
          obtain ⟨b, js, rfl, tj, rm⟩ := re
          have rc : SeqAt.RcAt A s (.ref a) (.ref b) (eqD (.tup l) (.tup m)) := by
            have := SeqAt.RcAt.tuples ti tj hu0 (items l m is js (by simpa [plainD] using hd) (by simpa [plainD] using he) rl rm)
            rw [eqD, eqL_range]
            have e1 : is.toArray.size = l.length := by rw [List.size_toArray, rl.length]
            have e2 : js.toArray.size = m.length := by rw [List.size_toArray, rm.length]
            rw [e1, e2] at this
            exact this
          refine ⟨?_, rc⟩
          by_cases hab : a = b
          · subst hab
            have := AtH.inj (n + 1) hd he rd' re'
            rw [← this, eqD_refl (n + 1) _ hd]
            exact SeqAt.EqAt.same _
          · exact SeqAt.EqAt.of_refs hab rc
        | lst m =>
          rw [AtH] at re
          obtain ⟨b, js, rfl, tj, rm⟩ := re
          exact ⟨.tuple_list ti tj hu0, .tuple_list ti tj hu0⟩
        | fn a => simp [plainD, flatD] at he
        | scr a => simp [plainD, flatD] at he
        | non => rw [AtH] at re; subst re; exact ⟨.tuple_none ti hu0, .tuple_none ti hu0⟩
        | bl b => rw [AtH] at re; subst re; exact ⟨.tuple_bool _ ti hu0, .tuple_bool _ ti hu0⟩
        | int b => rw [AtH] at re; obtain ⟨t, rfl⟩ := re; exact ⟨.tuple_int _ _ ti hu0, .tuple_int _ _ ti hu0⟩
        | str b => rw [AtH] at re; obtain ⟨t, rfl⟩ := re; exact ⟨.tuple_str _ _ ti hu0, .tuple_str _ _ ti hu0⟩
      | lst l =>
        have rd' := rd
        rw [AtH] at rd
        obtain ⟨a, is, rfl, ti, rl⟩ := rd
        cases e with
        | tup m =>
          rw [AtH] at re
          obtain ⟨b, js, rfl, tj, rm⟩ := re
          exact ⟨.list_tuple ti tj hu0, .list_tuple ti tj hu0⟩
        | lst m =>
          have re' := re
          rw [AtH] at re
          obtain ⟨b, js, rfl, tj, rm⟩ := re
          have e1 : is.toArray.size = l.length := by rw [List.size_toArray, rl.length]
          have e2 : js.toArray.size = m.length := by rw [List.size_toArray, rm.length]
          have rc : SeqAt.RcAt A s (.ref a) (.ref b) (eqD (.lst l) (.lst m)) := by
            rw [eqD, eqL_range]
            by_cases hsz : l.length = m.length
            · have := SeqAt.RcAt.lists ti tj (by rw [e1, e2, hsz]) hu0 (items l m is js (by simpa [plainD] using hd) (by simpa [plainD] using he) rl rm)
              rw [e1] at this
              rw [hsz, Nat.min_self, beq_self_eq_true, Bool.and_true, ← hsz]
              exact this
            · have := SeqAt.RcAt.lists_lengths ti tj (by rw [e1, e2]; simpa using hsz) hu0
              rw [show (l.length == m.length) = false by simpa using hsz, Bool.and_false]
              exact this
          refine ⟨?_, rc⟩
          by_cases hab : a = b
          · subst hab
            have := AtH.inj (n + 1) hd he rd' re'
            rw [← this, eqD_refl (n + 1) _ hd]
            exact SeqAt.EqAt.same _
          · exact SeqAt.EqAt.of_refs hab rc
        | fn a => simp [plainD, flatD] at he
        | scr a => simp [plainD, flatD] at he
        | non => rw [AtH] at re; subst re; exact ⟨.list_none ti hu0, .list_none ti hu0⟩
        | bl b => rw [AtH] at re; subst re; exact ⟨.list_bool _ ti hu0, .list_bool _ ti hu0⟩
        | int b => rw [AtH] at re; obtain ⟨t, rfl⟩ := re; exact ⟨.list_int _ _ ti hu0, .list_int _ _ ti hu0⟩
        | str b => rw [AtH] at re; obtain ⟨t, rfl⟩ := re; exact ⟨.list_str _ _ ti hu0, .list_str _ _ ti hu0⟩
      | fn a => simp [plainD, flatD] at hd
      | scr a => simp [plainD, flatD] at hd
      | non => simp [flatD] at fd
      | bl a => simp [flatD] at fd
      | int a => simp [flatD] at fd
      | str a => simp [flatD] at fd
section
variable {X : Cx}
noncomputable def rEqD (K : PySem.W.Frag) : R2 := fun x y H Q => ∃ d e, Rep K H d x ∧ Rep K H e y ∧ plainD 9 d = true ∧ plainD 9 e = true ∧ Q (.bl (eqD d e)) H
theorem op_eqD (hu : X.A.units + 9 < cLine) : OpR X (compareOp .Eq) (rEqD X.K) := by
  intro pins s σ H x y v u Q I rx ry h
  obtain ⟨d, e, rd, re, pd, pe, q⟩ := h
  exact (eqAt_D 9 pd pe (rd.at I pd rx) (re.at I pe ry) hu).2 _ _ _ _ ⟨.bl _, H, I, rfl, q⟩
noncomputable def itemEq (K : PySem.W.Frag) (H : Hp) (l : List Dat) (x : Dat) (u : Value) : Bool :=
  open Classical in if h : ∃ d v, d ∈ l ∧ RelV v u ∧ Rep K H d v then eqD (Classical.choose h) x else false
theorem itemEq_is {pins : List (Addr × Obj)} {σ : St} {H : Hp} {s : Shared} (I : Inv X pins σ H s) {l : List Dat} {x d : Dat} {v : V} {u : Value} (hl : l.all (plainD 8) = true) (hd : d ∈ l) (r : RelV v u) (q : Rep X.K H d v) :
    itemEq X.K H l x u = eqD d x := by
  have h : ∃ d v, d ∈ l ∧ RelV v u ∧ Rep X.K H d v := ⟨d, v, hd, r, q⟩
  unfold itemEq
  rw [dif_pos h]
  obtain ⟨v', h1, h2, h3⟩ := Classical.choose_spec h
  have e : v' = v := h2.inj r
  subst e
  have p := List.all_eq_true.mp hl
  rw [Rep.inj I 8 (p _ h1) (p _ hd) h3 q r]
theorem any_itemEq {pins : List (Addr × Obj)} {σ : St} {H : Hp} {s : Shared} (I : Inv X pins σ H s) {x : Dat} {L : List Dat} (hL : L.all (plainD 8) = true) :
    ∀ {l : List Dat} {vs : List V} {us : List Value}, (∀ d ∈ l, d ∈ L) → RepL X.K H l vs → Vals vs us → us.any (itemEq X.K H L x) = l.any fun d => eqD d x
  | [], _, _, _, rl, rv => by rw [RepL] at rl; subst rl; cases rv; rfl
  | d :: l, _, _, hs, rl, rv => by
    rw [RepL] at rl
    obtain ⟨v, r, rfl, r1, r2⟩ := rl
    cases rv with
    | cons q1 q2 =>
      rw [List.any_cons, List.any_cons, itemEq_is I hL (hs d List.mem_cons_self) q1 r1, any_itemEq I hL (fun e he => hs e (List.mem_cons_of_mem _ he)) r2 q2]
theorem mem_itemEq {pins : List (Addr × Obj)} {σ : St} {H : Hp} {s : Shared} (I : Inv X pins σ H s) {x : Dat} {y : V} {w : Value} {A : Around} (hx : plainD 8 x = true) (rx : Rep X.K H x y) (ry : RelV y w) (hu : A.units + 8 < cLine) {L : List Dat} (hL : L.all (plainD 8) = true) :
    ∀ {l : List Dat} {vs : List V} {us : List Value}, (∀ d ∈ l, d ∈ L) → RepL X.K H l vs → Vals vs us → ∀ u ∈ us, SeqAt.EqAt A s u w (itemEq X.K H L x u)
  | [], _, _, _, rl, rv, u, hm => by rw [RepL] at rl; subst rl; cases rv; cases hm
  | d :: l, _, _, hs, rl, rv, u, hm => by
    rw [RepL] at rl
    obtain ⟨v, r, rfl, r1, r2⟩ := rl
    cases rv with
    | cons q1 q2 =>
      rcases List.mem_cons.mp hm with e | hm
      · subst e
        rw [itemEq_is I hL (hs d List.mem_cons_self) q1 r1]
        exact (eqAt_D 8 (List.all_eq_true.mp hL d (hs d List.mem_cons_self)) hx (r1.at I (List.all_eq_true.mp hL d (hs d List.mem_cons_self)) q1) (rx.at I hx ry) hu).1
      · exact mem_itemEq I hx rx ry hu hL (fun e he => hs e (List.mem_cons_of_mem _ he)) r2 q2 u hm
noncomputable def rInD (K : PySem.W.Frag) (neg : Bool) : R2 := fun x y H Q => ∃ p vs d l, y = .ref p ∧ (H p = some (.lst vs) ∨ SqT K H p vs) ∧ RepL K H l vs ∧ Rep K H d x ∧ plainD 8 d = true ∧ l.all (plainD 8) = true ∧ Q (.bl (if neg then !(l.any fun e => eqD e d) else l.any fun e => eqD e d)) H
theorem op_inD (hu : X.A.units + 9 < cLine) : OpR X (compareOp .In) (rInD X.K false) := by
  intro pins s σ H x y v u Q I rx ry h
  obtain ⟨p, vs, d, l, rfl, hq, rl, rd, pd, pl, q⟩ := h
  cases ry
  have hu' : X.A.in1.units + 8 < cLine := by show X.A.units + 1 + 8 < cLine; omega
  rcases hq with hq | hq
  · obtain ⟨its, r, pll, hz⟩ := I.list (SqL.of hq)
    refine SeqAt.in_listAt (itemEq X.K H l d) pll.isList (fun w hw => mem_itemEq I pd rd rx hu' pl (fun _ h => h) rl r w (by simpa using hw)) ⟨.bl _, H, I, rfl, ?_⟩
    rw [show its.toArray.any (itemEq X.K H l d) = its.any (itemEq X.K H l d) by simp, any_itemEq I pl (fun _ h => h) rl r]
    exact q
  · obtain ⟨its, r, pll, hz⟩ := I.tuple hq
    refine SeqAt.in_tupleAt (itemEq X.K H l d) pll (fun w hw => mem_itemEq I pd rd rx hu' pl (fun _ h => h) rl r w (by simpa using hw)) ⟨.bl _, H, I, rfl, ?_⟩
    rw [show its.toArray.any (itemEq X.K H l d) = its.any (itemEq X.K H l d) by simp, any_itemEq I pl (fun _ h => h) rl r]
    exact q
theorem op_notInD (hu : X.A.units + 9 < cLine) : OpR X (compareOp .NotIn) (rInD X.K true) := by
  intro pins s σ H x y v u Q I rx ry h
  obtain ⟨p, vs, d, l, rfl, hq, rl, rd, pd, pl, q⟩ := h
  cases ry
  have hu' : X.A.in1.units + 8 < cLine := by show X.A.units + 1 + 8 < cLine; omega
  rcases hq with hq | hq
  · obtain ⟨its, r, pll, hz⟩ := I.list (SqL.of hq)
    refine SeqAt.notIn_listAt (itemEq X.K H l d) pll.isList (fun w hw => mem_itemEq I pd rd rx hu' pl (fun _ h => h) rl r w (by simpa using hw)) ⟨.bl _, H, I, rfl, ?_⟩
    rw [show its.toArray.any (itemEq X.K H l d) = its.any (itemEq X.K H l d) by simp, any_itemEq I pl (fun _ h => h) rl r]
    exact q
  · obtain ⟨its, r, pll, hz⟩ := I.tuple hq
    refine SeqAt.notIn_tupleAt (itemEq X.K H l d) pll (fun w hw => mem_itemEq I pd rd rx hu' pl (fun _ h => h) rl r w (by simpa using hw)) ⟨.bl _, H, I, rfl, ?_⟩
    rw [show its.toArray.any (itemEq X.K H l d) = its.any (itemEq X.K H l d) by simp, any_itemEq I pl (fun _ h => h) rl r]
    exact q
end
end TF
namespace TF
open PySem PySem.Spec L2
open PyProof.Rows hiding St RelV
section
variable {X : Cx} {ρ : Rho} {G : Gs} {e a b c : Expr} {es : List Expr} {d d' d1 d2 : Dat} {ds l m : List Dat} {pos : Pos} {i j k : Int}
theorem px_add (ha : PX X ρ G a (.int i)) (hb : PX X ρ G b (.int j)) : PX X ρ G (.BinOp a .Add b pos) (.int (i + j)) := px_op op_add ha hb fun H x y Q o hx hy k => ⟨i, j, hx, hy, k _ _ (po1' o rfl)⟩
theorem px_sub (ha : PX X ρ G a (.int i)) (hb : PX X ρ G b (.int j)) : PX X ρ G (.BinOp a .Sub b pos) (.int (i - j)) := px_op op_sub ha hb fun H x y Q o hx hy k => ⟨i, j, hx, hy, k _ _ (po1' o rfl)⟩
theorem px_mul (ha : PX X ρ G a (.int i)) (hb : PX X ρ G b (.int j)) (hc : CMul i j) : PX X ρ G (.BinOp a .Mult b pos) (.int (i * j)) := px_op op_mul ha hb fun H x y Q o hx hy k => ⟨i, j, hx, hy, hc, k _ _ (po1' o rfl)⟩
theorem px_mod (ha : PX X ρ G a (.int i)) (hb : PX X ρ G b (.int j)) (hc : 0 < j) : PX X ρ G (.BinOp a .Mod b pos) (.int (i % j)) := px_op op_mod ha hb fun H x y Q o hx hy k => ⟨i, j, hx, hy, hc, k _ _ (po1' o rfl)⟩
theorem px_fdiv (ha : PX X ρ G a (.int i)) (hb : PX X ρ G b (.int j)) (hc : CDiv i j) : PX X ρ G (.BinOp a .FloorDiv b pos) (.int (i / j)) := px_op op_fdiv ha hb fun H x y Q o hx hy k => ⟨i, j, hx, hy, hc, k _ _ (po1' o rfl)⟩
theorem px_neg (ha : PX X ρ G a (.int i)) : PX X ρ G (.UnaryOp .USub a pos) (.int (-i)) :=
  we_pe (pe_un un_neg pe_we) fun σ H S => ⟨ρ, G, _, ha, S, fun x H1 ⟨_, _, e1, o1, r1, q1, q1'⟩ => by
    subst q1; subst q1'
    exact ⟨i, r1, Po.trans e1 (po1' o1 rfl)⟩⟩
noncomputable def PXC (X : Cx) (ρ : Rho) (G : Gs) (op : CmpOp) (a b : Expr) (d : Dat) : Prop :=
  ∀ (pins : List (Addr × Obj)) (s : Shared) (σ : St) (H : Hp), Inv X pins σ H s → Stt X H σ ρ G →
    wpAny (model X.prog X.w) X.A (eval a X.env) (fun v s₁ => wpAny (model X.prog X.w) X.A (eval b X.env) (fun u s₂ => wpAny (model X.prog X.w) X.A (compareOp op v u) (EP X pins σ (Po X H G fun d' G' => d' = d ∧ G' = G)) X.xe s₂) X.xe s₁) X.xe s
theorem pxc_op {op : CmpOp} {r : R2} (ho : OpR X (compareOp op) r) (ha : PX X ρ G a d1) (hb : PX X ρ G b d2)
    (hr : ∀ (H : Hp) (x y : V) (Q : VK), GOk X.K H G → Rep X.K (hid H G) d1 x → Rep X.K (hid H G) d2 y → (∀ v H', Po X H G (fun d' G' => d' = d ∧ G' = G) v H' → Q v H') → r x y H Q) : PXC X ρ G op a b d := by
  intro pins s σ H I S
  refine thn (ha pins s σ H I S) fun v s1 ⟨x, H1, I1, rx, _, _, e1, o1, r1, q1, q1'⟩ => ?_
  subst q1; subst q1'
  refine thn (hb pins s1 σ H1 I1 (S.ext e1 o1)) fun u s2 ⟨y, H2, I2, ry, _, _, e2, o2, r2, q2, q2'⟩ => ?_
  subst q2; subst q2'
  exact ho pins s2 σ H2 x y v u _ I2 rx ry (hr H2 x y _ o2 (r1.same e2.hid) r2 fun v H' z => Po.trans (e1.trans e2) z)
theorem px_c {op : CmpOp} (h : PXC X ρ G op a b d) (hm : behindInMarks op b = false := by first | exact nobehind _ (by decide) (by decide) | rfl) : PX X ρ G (.Compare a [op] [b] pos) d := fun pins s σ H I S => wpAny_Compare1 (h pins s σ H I S) hm
theorem pxt_c {op : CmpOp} {p : Bool} (h : PXC X ρ G op a b (.bl p)) (hm : behindInMarks op b = false := by first | exact nobehind _ (by decide) (by decide) | rfl) : PXT X ρ G (.Compare a [op] [b] pos) p := by
  intro pins s σ H I S
  refine wpAny_isTrue_Compare1 (thn (h pins s σ H I S) fun v s1 h1 => thn h1 fun u s2 h2 => thn h2 fun c s3 ⟨x, H1, I1, r1, _, _, e1, o1, q1, q2, q2'⟩ => ?_) hm
  subst q2; subst q2'
  cases (show x = V.bl p from q1)
  cases r1
  exact wpAny_truthy_bool ⟨H1, I1, _, e1, o1, rfl, rfl⟩
theorem pxc_lt (ha : PX X ρ G a (.int i)) (hb : PX X ρ G b (.int j)) : PXC X ρ G .Lt a b (.bl (decide (i < j))) := pxc_op op_lt ha hb fun H x y Q o hx hy k => ⟨i, j, hx, hy, k _ _ (po1' o rfl)⟩
theorem pxc_gt (ha : PX X ρ G a (.int i)) (hb : PX X ρ G b (.int j)) : PXC X ρ G .Gt a b (.bl (decide (j < i))) := pxc_op op_gt ha hb fun H x y Q o hx hy k => ⟨i, j, hx, hy, k _ _ (po1' o rfl)⟩
theorem pxc_eqI (ha : PX X ρ G a (.int i)) (hb : PX X ρ G b (.int j)) : PXC X ρ G .Eq a b (.bl (i == j)) :=
  pxc_op op_eq ha hb fun H x y Q o hx hy k => by
    cases (show x = V.int i from hx); cases (show y = V.int j from hy)
    exact ⟨rfl, by rw [dec_int]; exact k _ _ (po1' o rfl)⟩
theorem pxc_eq (hu : X.A.units + 9 < cLine) (ha : PX X ρ G a d1) (hb : PX X ρ G b d2) (p1 : plainD 9 d1 = true) (p2 : plainD 9 d2 = true) : PXC X ρ G .Eq a b (.bl (eqD d1 d2)) :=
  pxc_op (op_eqD hu) ha hb fun H x y Q o hx hy k => ⟨d1, d2, hx.same hid_le, hy.same hid_le, p1, p2, k _ _ (po1' o rfl)⟩
theorem in_of {H : Hp} {K : PySem.W.Frag} {y : V} (hy : Rep K (hid H G) (.tup l) y ∨ Rep K (hid H G) (.lst l) y) : ∃ p vs, y = .ref p ∧ (H p = some (.lst vs) ∨ SqT K H p vs) ∧ RepL K H l vs := by
  rcases hy with hy | hy
  · rw [Rep] at hy
    obtain ⟨p, vs, e, h1, h2⟩ := hy
    exact ⟨p, vs, e, .inr (sqT_same hid_le h1), h2.same hid_le⟩
  · rw [Rep] at hy
    obtain ⟨p, vs, e, h1, h2⟩ := hy
    exact ⟨p, vs, e, .inl (hid_le _ _ h1), h2.same hid_le⟩
theorem px_one {op} (h : PX X ρ G a d) : PX X ρ G (.BoolOp op [a] pos) d := fun pins s σ H I S => BoolOp_one (h pins s σ H I S)
theorem px_and {rest : List Expr} {p q : Bool} (ha : PX X ρ G a (.bl p)) (hb : p = true → PX X ρ G (.BoolOp .And (b :: rest) pos) (.bl q)) : PX X ρ G (.BoolOp .And (a :: b :: rest) pos) (.bl (p && q)) := by
  intro pins s σ H I S
  refine BoolOp_and (thn (ha pins s σ H I S) fun v s1 ⟨x, H1, I1, r1, _, _, e1, o1, rx, q1, q1'⟩ => ?_)
  subst q1; subst q1'
  cases (show x = V.bl p from rx)
  cases r1
  refine wpAny_truthy_bool ?_
  cases p with
  | true => exact thn (hb rfl pins s1 σ H1 I1 (S.ext e1 o1)) fun _ _ z => EP.mono z fun _ _ y => Po.trans e1 y
  | false => exact ⟨.bl false, H1, I1, rfl, .bl false, _, e1, o1, rfl, rfl, rfl⟩
theorem px_not {p : Bool} (ha : PX X ρ G a (.bl p)) : PX X ρ G (.UnaryOp .Not a pos) (.bl (!p)) := by
  intro pins s σ H I S
  refine UnaryOp_ (thn (ha pins s σ H I S) fun v s1 ⟨x, H1, I1, r1, _, _, e1, o1, rx, q1, q1'⟩ => ?_)
  subst q1; subst q1'
  cases (show x = V.bl p from rx)
  cases r1
  exact not_of (wpAny_truthy_bool ⟨.bl (!p), H1, I1, rfl, .bl (!p), _, e1, o1, rfl, rfl, rfl⟩)
noncomputable def PXW (X : Cx) (ρ : Rho) (G : Gs) (e : Expr) (b : Bool) : Prop :=
  ∀ (whole : Sem Value) (pins : List (Addr × Obj)) (s : Shared) (σ : St) (H : Hp), Inv X pins σ H s → Stt X H σ ρ G → wpAny (model X.prog X.w) X.A (isTrue e X.env whole) (TP X pins σ (PoT X H G fun b' G' => b' = b ∧ G' = G)) X.xe s
theorem PXW.t {p : Bool} (h : PXW X ρ G e p) : PXT X ρ G e p := fun pins s σ H I S => h _ pins s σ H I S
theorem pxt_mono {p : Bool} {Q : Bool → Gs → Prop} (h : PXT X ρ G e p) (q : Q p G) : WT X ρ G e Q := fun pins s σ H I S => thn (h pins s σ H I S) fun _ _ z => TP.mono z fun _ _ ⟨_, e, o, q1, q2⟩ => by
  subst q1; subst q2; exact ⟨_, e, o, q⟩
theorem pxw_and1 {p : Bool} (h : PXT X ρ G a p) : PXW X ρ G (.BoolOp .And [a] pos) p := by
  intro wh pins s σ H I S
  refine isTrue_and (thn (h pins s σ H I S) fun c s1 e => ?_)
  cases c with
  | true => exact isTrue_and_nil e
  | false => exact e
theorem pxw_or1 {p : Bool} (h : PXT X ρ G a p) : PXW X ρ G (.BoolOp .Or [a] pos) p := by
  intro wh pins s σ H I S
  refine isTrue_or (thn (h pins s σ H I S) fun c s1 e => ?_)
  cases c with
  | false => exact isTrue_or_nil e
  | true => exact e
theorem pxw_and {rest : List Expr} {p q : Bool} (ha : PXT X ρ G a p) (hb : p = true → PXW X ρ G (.BoolOp .And (b :: rest) pos) q) : PXW X ρ G (.BoolOp .And (a :: b :: rest) pos) (p && q) := by
  intro wh pins s σ H I S
  refine isTrue_and (thn (ha pins s σ H I S) fun c s1 ⟨H1, I1, _, e1, o1, q1, q2⟩ => ?_)
  subst q1; subst q2
  cases c with
  | true => exact thn (hb rfl wh pins s1 σ H1 I1 (S.ext e1 o1)) fun _ _ z => TP.mono z fun _ _ y => PoT.trans e1 y
  | false => exact ⟨H1, I1, _, e1, o1, rfl, rfl⟩
theorem pxw_or {rest : List Expr} {p q : Bool} (ha : PXT X ρ G a p) (hb : p = false → PXW X ρ G (.BoolOp .Or (b :: rest) pos) q) : PXW X ρ G (.BoolOp .Or (a :: b :: rest) pos) (p || q) := by
  intro wh pins s σ H I S
  refine isTrue_or (thn (ha pins s σ H I S) fun c s1 ⟨H1, I1, _, e1, o1, q1, q2⟩ => ?_)
  subst q1; subst q2
  cases c with
  | false => exact thn (hb rfl wh pins s1 σ H1 I1 (S.ext e1 o1)) fun _ _ z => TP.mono z fun _ _ y => PoT.trans e1 y
  | true => exact ⟨H1, I1, _, e1, o1, rfl, rfl⟩
theorem pxt_not {p : Bool} (ha : PXT X ρ G a p) : PXT X ρ G (.UnaryOp .Not a pos) (!p) := by
  intro pins s σ H I S
  refine isTrue_not (Q := TP X pins σ (PoT X H G fun b' G' => b' = (!p) ∧ G' = G)) (thn (ha pins s σ H I S) fun c s1 ⟨H1, I1, _, e1, o1, q1, q2⟩ => ?_)
  subst q1; subst q2
  exact ⟨H1, I1, _, e1, o1, rfl, rfl⟩
theorem pxt_val {p : Bool} (h : PX X ρ G e (.bl p)) (he : ∀ whole, isTrue e X.env whole = (do let v ← whole; standAt e.pos; holding [v] (truthy v)) := by intro _; rfl) : PXT X ρ G e p := by
  intro pins s σ H I S
  refine isTrue_plain (thn (h pins s σ H I S) fun v s1 ⟨x, H1, I1, r1, _, _, e1, o1, rx, q1, q1'⟩ => ?_) (he _)
  subst q1; subst q1'
  cases (show x = V.bl p from rx)
  cases r1
  exact wpAny_truthy_bool ⟨H1, I1, _, e1, o1, rfl, rfl⟩
noncomputable def truD : Dat → Option Bool
  | .non => some false
  | .bl b => some b
  | .int i => some (i != 0)
  | .tup l => some (!l.isEmpty)
  | .lst l => some (!l.isEmpty)
  | _ => none
theorem truV_of {K : PySem.W.Frag} {H : Hp} {v : V} {p : Bool} (h : truD d = some p) (r : Rep K (hid H G) d v) : TruV K v H p := by
  cases d <;> simp only [truD, Option.some.injEq, reduceCtorEq] at h <;> subst h <;> rw [Rep] at r
  · subst r; rfl
  · subst r; rfl
  · subst r; rfl
  · obtain ⟨a, vs, rfl, h1, h2⟩ := r
    refine .inr (.inl ⟨vs, sqT_same hid_le h1, ?_⟩)
    have := h2.length
    rename_i l
    cases l <;> cases vs <;> simp_all
  · obtain ⟨a, vs, rfl, h1, h2⟩ := r
    refine .inl ⟨vs, SqL.of (hid_le _ _ h1), ?_⟩
    have := h2.length
    rename_i l
    cases l <;> cases vs <;> simp_all
theorem pxt_truth {p : Bool} (h : PX X ρ G e d) (ht : truD d = some p) (he : ∀ whole, isTrue e X.env whole = (do let v ← whole; standAt e.pos; holding [v] (truthy v)) := by intro _; rfl) : PXT X ρ G e p :=
  wt_pt (pt_truth pe_we he) fun σ H S => ⟨ρ, G, _, h, S, fun x H1 ⟨_, _, e1, o1, r1, q1, q1'⟩ => by
    subst q1; subst q1'
    exact ⟨p, truV_of ht r1, _, e1, o1, rfl, rfl⟩⟩
theorem pxs_nil : PXs X ρ G [] [] := wa_pa pa_nil fun σ H S => ⟨[], G, Ext.refl, S.own, RepL.nil, rfl, rfl⟩
theorem pxs_cons (ha : PX X ρ G e d) (hr : PXs X ρ G es ds) (hs : starEach (e :: es) X.env = (false, eval e X.env) :: starEach es X.env := by rfl) : PXs X ρ G (e :: es) (d :: ds) :=
  wa_pa (pa_cons pe_we pa_wa hs) fun σ H S => ⟨ρ, G, _, ha, S, fun x H1 ⟨_, _, e1, o1, r1, q1, q1'⟩ => by
    subst q1; subst q1'
    refine ⟨ρ, _, _, hr, S.ext e1 o1, fun xs H2 ⟨_, _, e2, o2, r2, q2, q2'⟩ => ?_⟩
    subst q2; subst q2'
    exact ⟨_, _, e1.trans e2, o2, RepL.cons (r1.same e2.hid) r2, rfl, rfl⟩⟩
theorem new_tup {H : Hp} {p : Addr} {vs : List V} (o : GOk X.K H G) (hp : H p = none) (r : RepL X.K (hid H G) ds vs) : Po X H G (fun d' G' => d' = .tup ds ∧ G' = G) (.ref p) (upd H p (.tup vs)) :=
  po1 (Ext.alloc hp) (o.alloc hp) (by rw [Rep]; exact ⟨p, vs, rfl, SqT.of (hid_of (o.free hp) upd_same), r.same (Ext.alloc hp).hid⟩)
theorem new_lst {H : Hp} {p : Addr} {vs : List V} (o : GOk X.K H G) (hp : H p = none) (r : RepL X.K (hid H G) ds vs) : Po X H G (fun d' G' => d' = .lst ds ∧ G' = G) (.ref p) (upd H p (.lst vs)) :=
  po1 (Ext.alloc hp) (o.alloc hp) (by rw [Rep]; exact ⟨p, vs, rfl, hid_of (o.free hp) upd_same, r.same (Ext.alloc hp).hid⟩)
theorem px_tup {x1} (h : PXs X ρ G es ds) (hz : ds.length ≤ 1000 := by first | decide | (simp; done)) : PX X ρ G (.Tuple es x1 pos) (.tup ds) :=
  we_pe (pe_tup pa_wa) fun σ H S => ⟨ρ, G, _, h, S, fun vs H1 ⟨_, _, e1, o1, r1, q1, q1'⟩ => by
    subst q1; subst q1'
    exact ⟨by rw [r1.length]; exact Nat.le_of_lt (small1000 hz), fun p hp => Po.trans e1 (new_tup o1 hp r1)⟩⟩
theorem px_lst (h : PXs X ρ G es ds) (hz : ds.length ≤ 1000 := by first | decide | (simp; done)) : PX X ρ G (.List es pos) (.lst ds) :=
  we_pe (pe_lst pa_wa) fun σ H S => ⟨ρ, G, _, h, S, fun vs H1 ⟨_, _, e1, o1, r1, q1, q1'⟩ => by
    subst q1; subst q1'
    exact ⟨by rw [r1.length]; exact Nat.le_of_lt (small1000 hz), fun p hp => Po.trans e1 (new_lst o1 hp r1)⟩⟩
theorem px_cat (ha : PX X ρ G a (.lst l)) (hb : PX X ρ G b (.lst m)) (hz : l.length + m.length ≤ sizeLine) : PX X ρ G (.BinOp a .Add b pos) (.lst (l ++ m)) :=
  px_op op_cat ha hb fun H x y Q o hx hy k => by
    rw [Rep] at hx hy
    obtain ⟨p, vs, e1, h1, r1⟩ := hx
    obtain ⟨q, us, e2, h2, r2⟩ := hy
    exact ⟨p, q, vs, us, e1, e2, hid_le _ _ h1, hid_le _ _ h2, by rw [r1.length, r2.length]; exact hz, fun t ht => k _ _ (new_lst o ht (r1.append r2))⟩
theorem atI_rep {K : PySem.W.Frag} {H : Hp} {vs : List V} (r : RepL K H l vs) (h : atI l i = some d) : ∃ v, atI vs i = some v ∧ Rep K H d v := by
  unfold atI at h ⊢
  rw [r.length]
  cases q : ixN l.length i with
  | none => rw [q] at h; cases h
  | some j => rw [q] at h; exact r.get h
theorem px_ixT (ha : PX X ρ G a (.tup l)) (hb : PX X ρ G b (.int i)) (hi : atI l i = some d) (hs : PlainIx b := by intro _ _; rfl) : PX X ρ G (.Subscript a b pos) d :=
  we_pe (pe_ix ix_tup pe_we pe_we hs) fun σ H S => ⟨ρ, G, _, ha, S, fun x H1 ⟨_, _, e1, o1, r1, q1, q1'⟩ => by
    subst q1; subst q1'
    refine ⟨ρ, _, _, hb, S.ext e1 o1, fun y H2 ⟨_, _, e2, o2, r2, q2, q2'⟩ => ?_⟩
    subst q2; subst q2'
    have r1 := r1.same e2.hid
    rw [Rep] at r1
    obtain ⟨p, vs, e3, h3, r3⟩ := r1
    obtain ⟨v, h4, r4⟩ := atI_rep r3 hi
    exact ⟨p, vs, i, v, e3, r2, sqT_same hid_le h3, h4, Po.trans (e1.trans e2) (po1' o2 r4)⟩⟩
theorem px_ixL (ha : PX X ρ G a (.lst l)) (hb : PX X ρ G b (.int i)) (hi : atI l i = some d) (hs : PlainIx b := by intro _ _; rfl) : PX X ρ G (.Subscript a b pos) d :=
  we_pe (pe_ix ix_list pe_we pe_we hs) fun σ H S => ⟨ρ, G, _, ha, S, fun x H1 ⟨_, _, e1, o1, r1, q1, q1'⟩ => by
    subst q1; subst q1'
    refine ⟨ρ, _, _, hb, S.ext e1 o1, fun y H2 ⟨_, _, e2, o2, r2, q2, q2'⟩ => ?_⟩
    subst q2; subst q2'
    have r1 := r1.same e2.hid
    rw [Rep] at r1
    obtain ⟨p, vs, e3, h3, r3⟩ := r1
    obtain ⟨v, h4, r4⟩ := atI_rep r3 hi
    exact ⟨p, vs, i, v, e3, r2, SqL.of (hid_le _ _ h3), h4, Po.trans (e1.trans e2) (po1' o2 r4)⟩⟩
theorem px_ixS {ns : List Int} {z : Int} (ha : PX X ρ G a (.scr ns)) (hb : PX X ρ G b (.int i)) (hi : atI ns i = some z) (hs : PlainIx b := by intro _ _; rfl) : PX X ρ G (.Subscript a b pos) (.int z) :=
  we_pe (pe_ix ix_list pe_we pe_we hs) fun σ H S => ⟨ρ, G, _, ha, S, fun x H1 ⟨_, _, e1, o1, r1, q1, q1'⟩ => by
    subst q1; subst q1'
    refine ⟨ρ, _, _, hb, S.ext e1 o1, fun y H2 ⟨_, _, e2, o2, r2, q2, q2'⟩ => ?_⟩
    subst q2; subst q2'
    have r1 := r1.same e2.hid
    rw [Rep] at r1
    obtain ⟨p, e3, h3⟩ := r1
    refine ⟨p, _, i, V.int z, e3, r2, Same.seq hid_le h3, ?_, Po.trans (e1.trans e2) (po1' o2 rfl)⟩
    unfold atI at hi ⊢
    rw [List.length_map]
    cases q : ixN ns.length i with
    | none => rw [q] at hi; cases hi
    | some j => rw [q] at hi; show (ns.map V.int)[j]? = _; rw [List.getElem?_map, show ns[j]? = some z from hi]; rfl⟩
theorem px_call1 {f : Str} {id : String} {r : List V → Hp → VK → Prop} {p : Pos} (hc : CallR X (.builtin id) r) (hg : Gl X f) (hm : X.mg f = none) (hv : bootBuiltins f = some (.builtin id)) (ha : PX X ρ G a d1)
    (hr : ∀ (H : Hp) (x : V) (Q : VK), GOk X.K H G → Rep X.K (hid H G) d1 x → (∀ v H', Po X H G (fun d' G' => d' = d ∧ G' = G) v H' → Q v H') → r [x] H Q)
    (hn : f ≠ "__name__" := by decide) (hdb : (f == ("__debug__" : Str)) = false := by decide) (he : starEach [a] X.env = (false, eval a X.env) :: starEach [] X.env := by rfl) : PX X ρ G (.Call (.Name f p) [a] [] pos) d :=
  we_pe (pe_callB hc hg hm hv (pa_cons pe_we pa_nil he) hn hdb he rfl) fun σ H S => ⟨ρ, G, _, ha, S, fun x H1 ⟨_, _, e1, o1, r1, q1, q1'⟩ => by
    subst q1; subst q1'
    exact hr H1 x _ o1 r1 fun v H' z => Po.trans e1 z⟩
theorem px_callT1 {f : Str} {T : String} {r : List V → Hp → VK → Prop} {p : Pos} (hc : CallR X (.type T) r) (hg : Gl X f) (hm : X.mg f = none) (hv : bootBuiltins f = some (.type T)) (ha : PX X ρ G a d1)
    (hr : ∀ (H : Hp) (x : V) (Q : VK), GOk X.K H G → Rep X.K (hid H G) d1 x → (∀ v H', Po X H G (fun d' G' => d' = d ∧ G' = G) v H' → Q v H') → r [x] H Q)
    (hn : f ≠ "__name__" := by decide) (hdb : (f == ("__debug__" : Str)) = false := by decide) (he : starEach [a] X.env = (false, eval a X.env) :: starEach [] X.env := by rfl) : PX X ρ G (.Call (.Name f p) [a] [] pos) d :=
  we_pe (pe_callTy hc hg hm hv (pa_cons pe_we pa_nil he) hn hdb he rfl) fun σ H S => ⟨ρ, G, _, ha, S, fun x H1 ⟨_, _, e1, o1, r1, q1, q1'⟩ => by
    subst q1; subst q1'
    exact hr H1 x _ o1 r1 fun v H' z => Po.trans e1 z⟩
noncomputable def lenD (G : Gs) : Dat → Option Nat
  | .tup l => some l.length
  | .lst l => some l.length
  | .scr ns => some ns.length
  | .fn p => match G p with | some (.lst l) => some l.length | _ => none
  | _ => none
theorem lenD_of {K : PySem.W.Frag} {H : Hp} {v : V} {n : Nat} (h : lenD G d = some n) (o : GOk K H G) (r : Rep K (hid H G) d v) : ∃ p ys, v = .ref p ∧ (SqL K H p ys ∨ SqT K H p ys) ∧ ys.length = n := by
  cases d <;> simp only [lenD, Option.some.injEq, reduceCtorEq] at h <;> rw [Rep] at r
  · split at h
    · rename_i p l hG
      cases h
      obtain ⟨vs, h3, r3⟩ := o _ _ hG
      exact ⟨_, vs, r, .inl (SqL.of h3), r3.length⟩
    · cases h
  · obtain ⟨p, e, q⟩ := r
    exact ⟨p, _, e, .inl (Same.seq hid_le q), by rw [List.length_map]; exact h⟩
  · obtain ⟨p, vs, e, q, r⟩ := r
    exact ⟨p, vs, e, .inr (sqT_same hid_le q), by rw [r.length]; exact h⟩
  · obtain ⟨p, vs, e, q, r⟩ := r
    exact ⟨p, vs, e, .inl (SqL.of (hid_le _ _ q)), by rw [r.length]; exact h⟩
theorem px_len {n : Nat} {p : Pos} (hg : Gl X "len") (hm : X.mg "len" = none) (ha : PX X ρ G a d1) (h : lenD G d1 = some n) (he : starEach [a] X.env = (false, eval a X.env) :: starEach [] X.env := by rfl) : PX X ρ G (.Call (.Name "len" p) [a] [] pos) (.int n) :=
  px_call1 call_len_seq hg hm PySem.boot_len ha (fun H x Q o r k => by
    obtain ⟨q, ys, e, hq, hl⟩ := lenD_of h o r
    exact ⟨q, ys, by rw [e], hq, k _ _ (po1' o (by rw [hl]; rfl))⟩) (he := he)
theorem px_tupleL {p : Pos} (hg : Gl X "tuple") (hm : X.mg "tuple" = none) (hv : bootBuiltins "tuple" = some (.type "tuple")) (ha : PX X ρ G a (.lst l)) (he : starEach [a] X.env = (false, eval a X.env) :: starEach [] X.env := by rfl) : PX X ρ G (.Call (.Name "tuple" p) [a] [] pos) (.tup l) :=
  px_callT1 call_tuple_of hg hm hv ha (fun H x Q o r k => by
    rw [Rep] at r
    obtain ⟨q, vs, e, h1, r1⟩ := r
    exact ⟨q, vs, by rw [e], .inl ⟨SqL.of (hid_le _ _ h1), fun t ht => k _ _ (new_tup o ht r1)⟩⟩) (he := he)
end
end TF
namespace TF
open PySem PySem.Spec L2
open PyProof.Rows hiding St RelV
structure DE where
  nx : Rho → Gs → Prop
  rt : Dat → Gs → Prop
  bk : Rho → Gs → Prop := fun _ _ => False
  ct : Rho → Gs → Prop := fun _ _ => False
noncomputable def lft (X : Cx) (H : Hp) (G : Gs) (q : Rho → Gs → Prop) : St → Hp → Prop := fun σ' H' => ∃ ρ' G', Ext H G H' G' ∧ Stt X H' σ' ρ' G' ∧ q ρ' G'
noncomputable def lift (X : Cx) (H : Hp) (G : Gs) (D : DE) : Ends where
  nx := lft X H G D.nx
  rt := Po X H G D.rt
  bk := lft X H G D.bk
  ct := lft X H G D.ct
noncomputable def WS (X : Cx) (ρ : Rho) (G : Gs) (st : Stmt) (D : DE) : Prop :=
  ∀ (pins : List (Addr × Obj)) (s : Shared) (σ : St) (H : Hp), Inv X pins σ H s → Stt X H σ ρ G → wpAny (model X.prog X.w) X.A (exec st X.env) (SP X pins (lift X H G D)) X.xe s
noncomputable def WSs (X : Cx) (ρ : Rho) (G : Gs) (st : List Stmt) (D : DE) : Prop :=
  ∀ (pins : List (Addr × Obj)) (s : Shared) (σ : St) (H : Hp), Inv X pins σ H s → Stt X H σ ρ G → wpAny (model X.prog X.w) X.A (execs st X.env) (SP X pins (lift X H G D)) X.xe s
theorem SP.le {X : Cx} {pins : List (Addr × Obj)} {D D' : Ends} {f : Flow} {s : Shared} (h : SP X pins D f s) (h1 : ∀ σ H, D.nx σ H → D'.nx σ H) (h2 : ∀ v H, D.rt v H → D'.rt v H) (h3 : ∀ σ H, D.bk σ H → D'.bk σ H) (h4 : ∀ σ H, D.ct σ H → D'.ct σ H) : SP X pins D' f s := by
  cases f with
  | next => obtain ⟨σ, H, I, q⟩ := h; exact ⟨σ, H, I, h1 _ _ q⟩
  | brk => obtain ⟨σ, H, I, q⟩ := h; exact ⟨σ, H, I, h3 _ _ q⟩
  | cont => obtain ⟨σ, H, I, q⟩ := h; exact ⟨σ, H, I, h4 _ _ q⟩
  | ret u => obtain ⟨v, σ, H, I, r, q⟩ := h; exact ⟨v, σ, H, I, r, h2 _ _ q⟩
theorem lft_trans {X : Cx} {H H1 : Hp} {G G1 : Gs} {q : Rho → Gs → Prop} (e : Ext H G H1 G1) {σ : St} {H' : Hp} (h : lft X H1 G1 q σ H') : lft X H G q σ H' := let ⟨ρ', G', e', S, q⟩ := h; ⟨ρ', G', e.trans e', S, q⟩
theorem lft_mono {X : Cx} {H : Hp} {G : Gs} {q q' : Rho → Gs → Prop} (k : ∀ ρ G, q ρ G → q' ρ G) {σ : St} {H' : Hp} (h : lft X H G q σ H') : lft X H G q' σ H' := let ⟨ρ', G', e', S, q⟩ := h; ⟨ρ', G', e', S, k _ _ q⟩
theorem SP.trans {X : Cx} {pins : List (Addr × Obj)} {D : DE} {f : Flow} {s : Shared} {H H1 : Hp} {G G1 : Gs} (e : Ext H G H1 G1) (h : SP X pins (lift X H1 G1 D) f s) : SP X pins (lift X H G D) f s :=
  SP.le h (fun _ _ q => lft_trans e q) (fun _ _ q => Po.trans e q) (fun _ _ q => lft_trans e q) (fun _ _ q => lft_trans e q)
section
variable {X : Cx} {ρ : Rho} {G : Gs} {e a b c : Expr} {es : List Expr} {d d' d1 d2 : Dat} {ds l m : List Dat} {pos : Pos} {D : DE} {rest body : List Stmt} {st : Stmt}
theorem wss_nil (h : D.nx ρ G) : WSs X ρ G [] D := fun pins s σ H I S => wpAny_execs_nil ⟨σ, H, I, ρ, G, Ext.refl, S, h⟩
theorem wss_cons (h : WS X ρ G st { D with nx := fun ρ' G' => WSs X ρ' G' rest D }) : WSs X ρ G (st :: rest) D := by
  intro pins s σ H I S
  refine wpAny_execs_cons (thn (h pins s σ H I S) fun f s1 q => ?_)
  cases f with
  | next =>
    obtain ⟨σ', H', I', ρ', G', e', S', q⟩ := q
    exact thn (q pins s1 σ' H' I' S') fun _ _ z => SP.trans e' z
  | ret v => exact q
  | brk => exact q
  | cont => exact q
theorem ws_ps {t : TS} (h : PS X st t) (hq : ∀ σ H, Stt X H σ ρ G → t (lift X H G D) σ H) : WS X ρ G st D := fun pins s σ H I S => h pins s σ H _ I (hq σ H S)
noncomputable def tWSs (X : Cx) (st : List Stmt) : TS := fun D' σ H => ∃ ρ G D, WSs X ρ G st D ∧ Stt X H σ ρ G ∧ (∀ σ' H', (lift X H G D).nx σ' H' → D'.nx σ' H') ∧ (∀ v H', (lift X H G D).rt v H' → D'.rt v H') ∧ (∀ σ' H', (lift X H G D).bk σ' H' → D'.bk σ' H') ∧ (∀ σ' H', (lift X H G D).ct σ' H' → D'.ct σ' H')
theorem pss_ws {st : List Stmt} : PSs X st (tWSs X st) := fun pins s σ H D' I ⟨ρ, G, D, h, S, h1, h2, h3, h4⟩ => thn (h pins s σ H I S) fun _ _ q => SP.le q h1 h2 h3 h4
theorem WSs.mono {st : List Stmt} {D' : DE} (h : WSs X ρ G st D) (h1 : ∀ ρ G, D.nx ρ G → D'.nx ρ G) (h2 : ∀ d G, D.rt d G → D'.rt d G) (h3 : ∀ ρ G, D.bk ρ G → D'.bk ρ G) (h4 : ∀ ρ G, D.ct ρ G → D'.ct ρ G) : WSs X ρ G st D' := fun pins s σ H I S =>
  thn (h pins s σ H I S) fun _ _ q => SP.le q (fun _ _ z => lft_mono h1 z) (fun _ _ z => Po.mono z h2) (fun _ _ z => lft_mono h3 z) (fun _ _ z => lft_mono h4 z)
theorem wss_retE (h : WE X ρ G e D.rt) : WSs X ρ G (.Return (some e) pos :: rest) D := wss_cons fun pins s σ H I S =>
  wpAny_Return_some (thn (h pins s σ H I S) fun v s1 ⟨x, H1, I1, r1, q1⟩ => ⟨x, σ, H1, I1, r1, q1⟩)
theorem wss_ret (h : PX X ρ G e d) (q : D.rt d G) : WSs X ρ G (.Return (some e) pos :: rest) D := wss_retE (h.we q)
theorem wss_setE (i : Nat) {x : Str} {pos' : Pos} (hN : X.N.Nodup) (h : WE X ρ G e fun d G' => WSs X (ρ.set i (some d)) G' rest D) (hi : X.N[i]? = some x := by rfl) (hx : Loc X.env.scope x := by first | exact Or.inl rfl | exact Or.inr rfl)
    (hs : swapsWith e (some (.Name x pos')) pos.line X.env = pure false := by rfl) (hf : X.fn x = true ∨ X.env.scope.names.lookup x = some .local := by first | exact .inl rfl | exact .inr rfl | assumption) : WSs X ρ G (.Assign [.Name x pos'] e pos :: rest) D :=
  wss_cons (ws_ps (ps_set (i := i) hN hi hx pe_we hs hf) fun σ H S => ⟨ρ, G, _, h, S, fun v H' ⟨d, G', e', o', r', q'⟩ => ⟨_, G', e', (S.ext e' o').set r', q'⟩⟩)
theorem wss_set (i : Nat) {x : Str} {pos' : Pos} (hN : X.N.Nodup) (h : PX X ρ G e d) (q : WSs X (ρ.set i (some d)) G rest D) (hi : X.N[i]? = some x := by rfl) (hx : Loc X.env.scope x := by first | exact Or.inl rfl | exact Or.inr rfl)
    (hs : swapsWith e (some (.Name x pos')) pos.line X.env = pure false := by rfl) (hf : X.fn x = true ∨ X.env.scope.names.lookup x = some .local := by first | exact .inl rfl | exact .inr rfl | assumption) : WSs X ρ G (.Assign [.Name x pos'] e pos :: rest) D :=
  wss_setE i hN (h.we q) hi hx hs hf
noncomputable def PGD (X : Cx) (tg : Expr) (f : Dat → Rho → Option Rho) : Prop :=
  ∀ (pins : List (Addr × Obj)) (s : Shared) (σ : St) (H : Hp) (v : V) (u : Value) (ρ ρ' : Rho) (G : Gs) (d : Dat), Inv X pins σ H s → RelV v u → Stt X H σ ρ G → Rep X.K (hid H G) d v → f d ρ = some ρ' →
    wpAny (model X.prog X.w) X.A (assign tg X.env u) (fun _ s' => ∃ σ' H', Inv X pins σ' H' s' ∧ Ext H G H' G ∧ Stt X H' σ' ρ' G) X.xe s
noncomputable def bName (i : Nat) : Dat → Rho → Option Rho := fun d ρ => some (ρ.set i (some d))
noncomputable def bPair (i j : Nat) : Dat → Rho → Option Rho := fun d ρ => match d with
  | .tup [a, b] => some ((ρ.set i (some a)).set j (some b))
  | _ => none
theorem pgd_name (i : Nat) {x : Str} (hN : X.N.Nodup) (hi : X.N[i]? = some x := by rfl) (hx : Loc X.env.scope x := by first | exact Or.inl rfl | exact Or.inr rfl) (hf : X.fn x = true ∨ X.env.scope.names.lookup x = some .local := by first | exact .inl rfl | exact .inr rfl | assumption) : PGD X (.Name x pos) (bName i) := by
  intro pins s σ H v u ρ ρ' G d I r S q e
  cases e
  exact pg_name hN hi hx hf pins s σ H v u (fun σ' H' => Ext H G H' G ∧ Stt X H' σ' _ G) I r ⟨Ext.refl, S.set q⟩
theorem pgd_pair (i j : Nat) {x y : Str} {px py : Pos} {k : Nat} (hc : X.calm = true) (hN : X.N.Nodup) (hi : X.N[i]? = some x := by rfl) (hj : X.N[j]? = some y := by rfl) (hx : Loc X.env.scope x := by first | exact Or.inl rfl | exact Or.inr rfl) (hy : Loc X.env.scope y := by first | exact Or.inl rfl | exact Or.inr rfl)
    (hfx : X.fn x = true ∨ X.env.scope.names.lookup x = some .local := by first | exact .inl rfl | exact .inr rfl | assumption) (hfy : X.fn y = true ∨ X.env.scope.names.lookup y = some .local := by first | exact .inl rfl | exact .inr rfl | assumption) : PGD X (.Tuple [.Name x px, .Name y py] k pos) (bPair i j) := by
  intro pins s σ H v u ρ ρ' G d I r S q e
  cases d <;> simp only [bPair, reduceCtorEq] at e
  rename_i l
  match l, e, q with
  | [a, b], e, q =>
    simp only [Option.some.injEq] at e
    subst e
    rw [Rep] at q
    obtain ⟨p, vs, rfl, h1, h2⟩ := q
    rw [RepL] at h2
    obtain ⟨v1, r1, rfl, q1, h2⟩ := h2
    rw [RepL] at h2
    obtain ⟨v2, r2, rfl, q2, h2⟩ := h2
    rw [RepL] at h2
    subst h2
    exact pg_tup (n := 2) hc (pgs_cons (pg_name hN hi hx hfx) (pgs_cons (pg_name hN hj hy hfy) pgs_nil)) rfl rfl pins s σ H (.ref p) u (fun σ' H' => Ext H G H' G ∧ Stt X H' σ' _ G) I r
      ⟨p, [v1, v2], rfl, sqT_same hid_le h1, rfl, v1, [v2], rfl, v2, [], rfl, rfl, Ext.refl, (S.set q1).set q2⟩
  | [], e, _ => simp at e
  | [_], e, _ => simp at e
  | _ :: _ :: _ :: _, e, _ => simp at e
theorem wss_unpack {tg : Expr} {f : Dat → Rho → Option Rho} {ρ' : Rho} (hg : PGD X tg f) (h : PX X ρ G e d) (hf : f d ρ = some ρ') (q : WSs X ρ' G rest D) (hs : swapsWithSole [tg] e pos.line X.env = pure false := by rfl) (hw : swappedStores [tg] e X.env = pure none := by rfl)
    (h1 : (assignEach [tg] X.env).map (·.2) = [assign tg X.env] := by rfl) : WSs X ρ G (.Assign [tg] e pos :: rest) D := wss_cons fun pins s σ H I S => by
  refine wpAny_Assign_stores (thn (h pins s σ H I S) fun v s1 ⟨x, H1, I1, r1, _, _, e1, o1, rx, q1, q1'⟩ => ?_) hs hw
  subst q1; subst q1'
  rw [h1]
  exact thn (hg pins s1 σ H1 x v ρ ρ' _ _ I1 r1 (S.ext e1 o1) rx hf) fun _ s2 ⟨σ2, H2, I2, e2, S2⟩ => ⟨σ2, H2, I2, ρ', _, e1.trans e2, S2, q⟩
theorem wss_ifE {x y : List Stmt} (hc : WT X ρ G c fun p G' => (p = true → WSs X ρ G' x { D with nx := fun ρ' G' => WSs X ρ' G' rest D }) ∧ (p = false → WSs X ρ G' y { D with nx := fun ρ' G' => WSs X ρ' G' rest D })) : WSs X ρ G (.If c x y pos :: rest) D := wss_cons fun pins s σ H I S => by
  refine wpAny_If (thn (hc pins s σ H I S) fun p s1 ⟨H1, I1, G1, e1, o1, q1⟩ => ?_)
  cases p with
  | true => exact thn (q1.1 rfl pins s1 σ H1 I1 (S.ext e1 o1)) fun _ _ z => SP.trans e1 z
  | false => exact thn (q1.2 rfl pins s1 σ H1 I1 (S.ext e1 o1)) fun _ _ z => SP.trans e1 z
theorem wss_if {x y : List Stmt} {p : Bool} (hc : PXT X ρ G c p) (ht : p = true → WSs X ρ G x { D with nx := fun ρ' G' => WSs X ρ' G' rest D }) (hf : p = false → WSs X ρ G y { D with nx := fun ρ' G' => WSs X ρ' G' rest D }) : WSs X ρ G (.If c x y pos :: rest) D :=
  wss_ifE (pxt_mono hc ⟨ht, hf⟩)
noncomputable def Wk (K : PySem.W.Frag) (J : It) (H : Hp) (G : Gs) (l : List Dat) : Prop :=
  ∀ H' G', Ext H G H' G' → (∀ (i : Nat) d, l[i]? = some d → J.go i H' ∧ ∀ x H'', J.yld i H' x H'' → Ext H' G' H'' G' ∧ (GOk K H' G' → GOk K H'' G') ∧ (GOk K H' G' → Rep K (hid H'' G') d x)) ∧ J.stop l.length H'
noncomputable def WI (X : Cx) (ρ : Rho) (G : Gs) (tg iter : Expr) (Q : List Dat → Gs → Prop) : Prop :=
  ∀ (pins : List (Addr × Obj)) (s : Shared) (σ : St) (H : Hp), Inv X pins σ H s → Stt X H σ ρ G →
    wpAny (model X.prog X.w) X.A (eval iter X.env) (fun v s1 => wpAny (model X.prog X.w) X.A (pyIter v) (PIE X pins σ tg fun J H' => ∃ l G', Ext H G H' G' ∧ GOk X.K H' G' ∧ Wk X.K J H' G' l ∧ Q l G') X.xe s1) X.xe s
theorem wk_list {K : PySem.W.Frag} {H : Hp} {p : Addr} {vs : List V} (h : hid H G p = some (.lst vs)) (r : RepL K (hid H G) l vs) : Wk K (Itl K p) H G l := by
  intro H' G' e
  have h' := hid_le _ _ (e.hid _ _ h)
  refine ⟨fun i d hd => ?_, vs, SqL.of h', by rw [r.length]; exact Nat.le_refl _⟩
  obtain ⟨v, hv, rv⟩ := r.get hd
  refine ⟨⟨vs, v, SqL.of h', hv⟩, fun x H'' ⟨e1, y⟩ => ?_⟩
  subst e1
  have := y vs (SqL.of h')
  rw [hv] at this
  cases this
  exact ⟨Ext.refl, fun o => o, fun _ => rv.same e.hid⟩
theorem wk_tup {K : PySem.W.Frag} {H : Hp} {p : Addr} {vs : List V} (h : SqT K (hid H G) p vs) (r : RepL K (hid H G) l vs) : Wk K (Itt K p) H G l := by
  intro H' G' e
  have h' := sqT_same hid_le (sqT_same e.hid h)
  refine ⟨fun i d hd => ?_, vs, h', by rw [r.length]; exact Nat.le_refl _⟩
  obtain ⟨v, hv, rv⟩ := r.get hd
  refine ⟨⟨vs, v, h', hv⟩, fun x H'' ⟨e1, y⟩ => ?_⟩
  subst e1
  have := y vs h'
  rw [hv] at this
  cases this
  exact ⟨Ext.refl, fun o => o, fun _ => rv.same e.hid⟩
noncomputable def rangeD (lo : Int) (n : Nat) : List Dat := (List.range n).map fun i => .int (lo + (i : Nat))
theorem wk_rng {K : PySem.W.Frag} {H : Hp} {lo : Int} {n : Nat} : Wk K (Itr lo n) H G (rangeD lo n) := by
  intro H' G' e
  refine ⟨fun i d hd => ?_, by show n ≤ (rangeD lo n).length; simp [rangeD]⟩
  have hi : i < n := by
    have := (List.getElem?_eq_some_iff.mp hd).1
    simpa [rangeD] using this
  refine ⟨hi, fun x H'' ⟨e1, e2⟩ => ?_⟩
  subst e1; subst e2
  refine ⟨Ext.refl, fun o => o, fun _ => ?_⟩
  have : (rangeD lo n)[i]? = some (.int (lo + i)) := by simp [rangeD, hi]
  rw [this] at hd
  cases hd
  rfl
theorem wi_listE {tg iter : Expr} {Q : List Dat → Gs → Prop} (h : WE X ρ G iter fun d G' => ∃ l, d = .lst l ∧ Q l G') : WI X ρ G tg iter Q := fun pins s σ H I S =>
  pi_list pe_we pins s σ H _ I ⟨ρ, G, _, h, S, fun x H1 ⟨d, G', e1, o1, r1, l, q1, q⟩ => by
    subst q1
    rw [Rep] at r1
    obtain ⟨p, vs, e2, h2, r2⟩ := r1
    exact ⟨p, e2, ⟨vs, SqL.of (hid_le _ _ h2)⟩, l, G', e1, o1, wk_list h2 r2, q⟩⟩
theorem wi_tupE {tg iter : Expr} {Q : List Dat → Gs → Prop} (h : WE X ρ G iter fun d G' => ∃ l, d = .tup l ∧ Q l G') : WI X ρ G tg iter Q := fun pins s σ H I S =>
  pi_tup pe_we pins s σ H _ I ⟨ρ, G, _, h, S, fun x H1 ⟨d, G', e1, o1, r1, l, q1, q⟩ => by
    subst q1
    rw [Rep] at r1
    obtain ⟨p, vs, e2, h2, r2⟩ := r1
    exact ⟨p, e2, ⟨vs, sqT_same hid_le h2⟩, l, G', e1, o1, wk_tup h2 r2, q⟩⟩
theorem wi_list {tg iter : Expr} {Q : List Dat → Gs → Prop} (h : PX X ρ G iter (.lst l)) (q : Q l G) : WI X ρ G tg iter Q := wi_listE (h.we ⟨l, rfl, q⟩)
theorem wi_tup {tg iter : Expr} {Q : List Dat → Gs → Prop} (h : PX X ρ G iter (.tup l)) (q : Q l G) : WI X ρ G tg iter Q := wi_tupE (h.we ⟨l, rfl, q⟩)
theorem wi_range1 {tg : Expr} {Q : List Dat → Gs → Prop} {n : Int} {p : Pos} (hg : Gl X "range") (hm : X.mg "range" = none) (ha : PX X ρ G a (.int n)) (h1 : -(2 ^ 62) ≤ n) (h2 : n < 2 ^ 62) (q : Q (rangeD 0 n.toNat) G) (hs : starEach [a] X.env = [(false, eval a X.env)] := by rfl) : WI X ρ G tg (.Call (.Name "range" p) [a] [] pos) Q := fun pins s σ H I S =>
  pi_range1 hg hm (pa_cons pe_we pa_nil hs) hs pins s σ H _ I ⟨ρ, G, _, ha, S, fun x H1 ⟨_, _, e1, o1, r1, q1, q1'⟩ => by
    subst q1; subst q1'
    cases (show x = V.int n from r1)
    exact ⟨n, rfl, h1, h2, _, _, e1, o1, wk_rng, q⟩⟩
theorem wss_for {tg iter : Expr} {f : Dat → Rho → Option Rho} (Pv : Nat → Rho → Gs → Prop) (hp : PassesOwn (model X.prog X.w) X.A X.env X.xe) (hc : X.calm = true) (hi : WI X ρ G tg iter fun l' G' => l' = l ∧ Pv 0 ρ G') (hg : PGD X tg f)
    (hs : ∀ (i : Nat) d ρ' G', l[i]? = some d → Pv i ρ' G' → ∃ ρ'', f d ρ' = some ρ'' ∧ WSs X ρ'' G' body { nx := Pv (i + 1), ct := Pv (i + 1), bk := fun ρ' G' => WSs X ρ' G' rest D, rt := D.rt })
    (hd : ∀ ρ' G', Pv l.length ρ' G' → WSs X ρ' G' rest D) (hfs : ∀ x, foldedSetIterable iter X.env x = pure x := by intro _; rfl) : WSs X ρ G (.For tg iter body [] pos :: rest) D := wss_cons fun pins s σ H I S => by
  refine wpAny_For (thn (hi pins s σ H I S) fun v s1 h1 => thn h1 fun itv s2 h2 => ?_) hfs
  obtain ⟨it, fp, tn, J, H2, e, I2, T, st2, f2, l', G2, e2, o2, wk, q, p0⟩ := h2
  subst e; subst q
  have stat : ∀ {H' : Hp}, (∀ b ∈ fp, H' b = none) → ∀ b ∈ fp, FpOk X pins H' b := fun hn b hb => ⟨hn b hb, (f2 b hb).2⟩
  refine codeAny_forLoop_any (fun n s' => ∃ i σ' H' ρ' G', i + n = l'.length ∧ Inv X pins σ' H' s' ∧ tn i s'.heap ∧ (∀ b ∈ fp, H' b = none) ∧ Ext H2 G2 H' G' ∧ Stt X H' σ' ρ' G' ∧ Pv i ρ' G') ?_ l'.length
    ⟨0, σ, H2, ρ, G2, Nat.zero_add _, I2, st2, fun b hb => (f2 b hb).1, Ext.refl, S.ext e2 o2, p0⟩
  rintro n s3 ⟨i, σ3, H3, ρ3, G3, hn, I3, st3, fr3, e3, S3, p3⟩
  obtain ⟨wk1, wk2⟩ := wk H3 G3 e3
  cases n with
  | zero =>
    have hn' : i = l'.length := by omega
    subst hn'
    refine wpAny_passesOwn hp (thn (T.done X rfl rfl rfl hc _ pins s3 σ3 H3 X.xe I3 (stat fr3) st3 wk2) fun r s4 ⟨hr, I4⟩ => ?_)
    subst hr
    exact wpAny_execs_nil ⟨σ3, H3, I4, ρ3, G3, e2.trans e3, S3, hd ρ3 G3 p3⟩
  | succ n =>
    have hlt : i < l'.length := by omega
    obtain ⟨go, wk1⟩ := wk1 i _ (List.getElem?_eq_getElem hlt)
    obtain ⟨ρ4, hf4, w4⟩ := hs i _ ρ3 G3 (List.getElem?_eq_getElem hlt) p3
    refine wpAny_passesOwn hp (thn (T.item X rfl rfl rfl hc i pins s3 σ3 H3 X.xe I3 (stat fr3) st3 go) fun r s4 ⟨u, hr, h4⟩ => ?_)
    subst hr
    refine wpAny_passesOwn hp (thn h4 fun _ s5 ⟨x, H5, I5, r5, y5, st5, fr5⟩ => ?_)
    obtain ⟨e5, o5, rep5'⟩ := wk1 x H5 y5
    have rep5 := rep5' S3.own
    have I5' := I5.pinned (stat fr5) (T.obj _ _ st5)
    refine wpAny_passesOwn hp (thn (hg _ s5 σ3 H5 x u ρ3 ρ4 G3 _ I5' r5 (S3.ext e5 (o5 S3.own)) rep5 hf4) fun _ s6 ⟨σ6, H6, I6, e6, S6⟩ => ?_)
    refine wpAny_passesOwn hp (thn (w4 _ s6 σ6 H6 I6 S6) fun f s7 q7 => ?_)
    have again : ∀ {σ7 : St} {H7 : Hp}, Inv X (pins ++ pinsAt fp s5.heap) σ7 H7 s7 → lft X H6 G3 (Pv (i + 1)) σ7 H7 → ∃ m, m < n + 1 ∧ ∃ i σ' H' ρ' G', i + m = l'.length ∧ Inv X pins σ' H' s7 ∧ tn i s7.heap ∧ (∀ b ∈ fp, H' b = none) ∧ Ext H2 G2 H' G' ∧ Stt X H' σ' ρ' G' ∧ Pv i ρ' G' := fun {σ7 H7} I7 ⟨ρ7, G7, e7, S7, p7⟩ => by
      refine ⟨n, Nat.lt_succ_self _, i + 1, σ7, H7, ρ7, G7, by omega, I7.unpinned, T.keep _ _ _ st5 fun b hb o e => (I7.pin (b, o) (List.mem_append_right _ (List.mem_append_right _ (mem_pinsAt hb e)))).1, fun b hb => ?_, (e3.trans (e5.trans (e6.trans e7))), S7, p7⟩
      obtain ⟨o, e, d⟩ := T.obj _ _ st5 b hb
      exact (I7.pin (b, o) (List.mem_append_right _ (List.mem_append_right _ (mem_pinsAt hb e)))).2.1
    have whole : Ext H G H6 G3 := e2.trans (e3.trans (e5.trans e6))
    cases f with
    | next => obtain ⟨σ7, H7, I7, n7⟩ := q7; exact again I7 n7
    | cont => obtain ⟨σ7, H7, I7, n7⟩ := q7; exact again I7 n7
    | brk => obtain ⟨σ7, H7, I7, q7⟩ := q7; exact ⟨σ7, H7, I7.unpinned, lft_trans whole q7⟩
    | ret v => obtain ⟨x7, σ7, H7, I7, r7, q7⟩ := q7; exact ⟨x7, σ7, H7, I7.unpinned, r7, Po.trans whole q7⟩
theorem own_new {H : Hp} {p : Addr} {vs : List V} (o : GOk X.K H G) (hp : H p = none) (r : RepL X.K (hid H G) ds vs) : Ext H G (upd H p (.lst vs)) (put G p (.lst ds)) ∧ GOk X.K (upd H p (.lst vs)) (put G p (.lst ds)) := by
  have hG := o.free hp
  have E : Ext H G (upd H p (.lst vs)) (put G p (.lst ds)) := ⟨fun b u e _ => by rw [upd_ne (ne_of_none e hp)]; exact e, fun b h => by
    by_cases hb : b = p
    · subst hb; exact .inr hp
    · rw [put_ne hb] at h; exact .inl h⟩
  refine ⟨E, fun b u q => ?_⟩
  by_cases hb : b = p
  · subst hb
    rw [put_same] at q
    cases q
    exact ⟨vs, upd_same, r.same E.hid⟩
  · rw [put_ne hb] at q
    exact (o b u q).ext E.hid (upd_ne hb)
theorem own_set {H : Hp} {p : Addr} {l : List Dat} {vs : List V} (o : GOk X.K H G) (hG : G p = some (.lst l)) (r : RepL X.K (hid H G) ds vs) : Ext H G (upd H p (.lst vs)) (put G p (.lst ds)) ∧ GOk X.K (upd H p (.lst vs)) (put G p (.lst ds)) := by
  have E : Ext H G (upd H p (.lst vs)) (put G p (.lst ds)) := ⟨fun b u e h => by
    have : b ≠ p := by rintro rfl; rw [hG] at h; cases h
    rw [upd_ne this]; exact e, fun b h => by
    by_cases hb : b = p
    · subst hb; left; rw [hG]; exact nofun
    · rw [put_ne hb] at h; exact .inl h⟩
  refine ⟨E, fun b u q => ?_⟩
  by_cases hb : b = p
  · subst hb
    rw [put_same] at q
    cases q
    exact ⟨vs, upd_same, r.same E.hid⟩
  · rw [put_ne hb] at q
    exact (o b u q).ext E.hid (upd_ne hb)
theorem own_rel {H : Hp} {p : Addr} {l : List Dat} (o : GOk X.K H G) (hG : G p = some (.lst l)) : Ext H G H (rel G p) ∧ GOk X.K H (rel G p) ∧ Rep X.K (hid H (rel G p)) (.lst l) (.ref p) := by
  have E : Ext H G H (rel G p) := ⟨fun b u e _ => e, fun b h => by
    by_cases hb : b = p
    · subst hb; rw [rel_same] at h; exact absurd rfl h
    · rw [rel_ne hb] at h; exact .inl h⟩
  refine ⟨E, fun b u q => ?_, ?_⟩
  · by_cases hb : b = p
    · subst hb; rw [rel_same] at q; cases q
    · rw [rel_ne hb] at q
      exact (o b u q).ext E.hid rfl
  · obtain ⟨vs, h1, r1⟩ := o p _ hG
    rw [Rep]
    exact ⟨p, vs, rfl, hid_of rel_same h1, r1.same E.hid⟩
theorem wss_ownL (i : Nat) {x : Str} {pos' : Pos} (hN : X.N.Nodup) (h : PXs X ρ G es ds) (q : ∀ p, G p = none → WSs X (ρ.set i (some (.fn p))) (put G p (.lst ds)) rest D) (hz : ds.length ≤ 1000 := by first | decide | (simp; done)) (hi : X.N[i]? = some x := by rfl) (hx : Loc X.env.scope x := by first | exact Or.inl rfl | exact Or.inr rfl)
    (hs : swapsWith (.List es p2) (some (.Name x pos')) pos.line X.env = pure false := by rfl) (hf : X.fn x = true ∨ X.env.scope.names.lookup x = some .local := by first | exact .inl rfl | exact .inr rfl | assumption) : WSs X ρ G (.Assign [.Name x pos'] (.List es p2) pos :: rest) D :=
  wss_cons (ws_ps (ps_set (i := i) hN hi hx (pe_lst pa_wa) hs hf) fun σ H S => ⟨ρ, G, _, h, S, fun vs H1 ⟨_, _, e1, o1, r1, q1, q1'⟩ => by
    subst q1; subst q1'
    refine ⟨by rw [r1.length]; exact Nat.le_of_lt (small1000 hz), fun p hp => ?_⟩
    obtain ⟨E, O⟩ := own_new o1 hp r1
    exact ⟨_, _, e1.trans E, Stt.set (d := .fn p) (v := .ref p) (S.ext (e1.trans E) O) rfl, q p (o1.free hp)⟩⟩)
theorem wss_append {p : Addr} {apos cpos : Pos} (hx : PX X ρ G a (.fn p)) (h : PX X ρ G e d) (hG : G p = some (.lst l)) (hz : l.length < sizeLine) (q : WSs X ρ (put G p (.lst (l ++ [d]))) rest D)
    (hbase : attributeBase a "append" X.env (eval a X.env) = eval a X.env := by rfl) (hline : (apos.endLine == cpos.line) = true := by rfl) (he : starEach [e] X.env = (false, eval e X.env) :: starEach [] X.env := by rfl)
    (hfew : ((backTo cpos (starEach [e] X.env)).all (fun x => !x.1) && (backToKw cpos (keywordEach [] X.env)).all (fun x => x.1.isSome) && decide (([e] : List Expr).length + ([] : List Keyword).length + (if ([] : List Keyword).isEmpty then 0 else 1) < 30)) = true := by rfl)
    (hs : swapsWith (.Call (.Attribute a "append" apos) [e] [] cpos) none pos.line X.env = pure false := by rfl) : WSs X ρ G (.Expr (.Call (.Attribute a "append" apos) [e] [] cpos) pos :: rest) D :=
  wss_cons (ws_ps (ps_expr (pe_bm PySem.F.plainAttrs_list PySem.F.slot_list_append PySem.F.type_list_append mt_append pe_we (pa_cons pe_we pa_nil he) hbase hfew hline he rfl) hs) fun σ H S => ⟨ρ, G, _, hx, S, fun x H1 ⟨_, _, e1, o1, r1, q1, q1'⟩ => by
    subst q1; subst q1'
    cases (show x = V.ref p from r1)
    obtain ⟨vs1, h1, _⟩ := o1 p _ hG
    refine ⟨.inl ⟨rfl, vs1, SqL.of h1⟩, ρ, _, _, h, S.ext e1 o1, fun y H2 ⟨_, _, e2, o2, r2, q2, q2'⟩ => ?_⟩
    subst q2; subst q2'
    obtain ⟨vs, h2, r3⟩ := o2 p _ hG
    refine ⟨p, vs, y, rfl, rfl, h2, by rw [r3.length]; exact hz, ?_⟩
    obtain ⟨E, O⟩ := own_set o2 hG (r3.append (RepL.cons r2 RepL.nil))
    exact ⟨ρ, _, (e1.trans e2).trans E, S.ext ((e1.trans e2).trans E) O, q⟩⟩)
end
end TF
set_option maxHeartbeats 2000000
namespace TF
open PySem PySem.Spec L2
open PyProof.Rows hiding St RelV
theorem forIn_yield_fold {α β : Type} {f : α → β → Sem (ForInStep β)} {g : β → α → β} : ∀ (l : List α) (c : β), (∀ x ∈ l, ∀ c, f x c = pure (.yield (g c x))) → forIn l c f = (pure (l.foldl g c) : Sem β)
  | [], _, _ => rfl
  | x :: l, c, h => by
    rw [List.forIn_cons, h x List.mem_cons_self, pure_bind]
    exact forIn_yield_fold l _ fun y hy => h y (List.mem_cons_of_mem _ hy)
noncomputable def clF (env : Env) : List (Str × Addr) → Str × NameKind → List (Str × Addr) := fun cs x => if (x.2 == NameKind.free) = true then (x.1, (env.cells.lookup x.1).getD 0) :: cs else cs
noncomputable def clOf (scope : Scope) (env : Env) : List (Str × Addr) := scope.names.foldl (clF env) []
theorem closureFor_ok {scope : Scope} {env : Env} (h : ∀ x ∈ scope.names, x.2 = .free → ∃ c, env.cells.lookup x.1 = some c) : closureFor scope env = pure (clOf scope env) := by
  simp only [closureFor]
  rw [forIn_yield_fold (g := clF env) scope.names [] (fun x hx c => ?_)]
  · rfl
  · obtain ⟨n, kind⟩ := x
    by_cases hk : kind = .free
    · subst hk
      obtain ⟨a, ha⟩ := h _ hx rfl
      simp only [cellOf, clF, ha, beq_self_eq_true, if_true, Option.getD_some, pure_bind]
    · have : (kind == NameKind.free) = false := by simpa using hk
      simp only [clF, this, Bool.false_eq_true, if_false]
theorem clF_mem {env : Env} {x : Str} {c : Addr} : ∀ (l : List (Str × NameKind)) (cs : List (Str × Addr)), (x, c) ∈ l.foldl (clF env) cs → (x, c) ∈ cs ∨ ((x, NameKind.free) ∈ l ∧ c = (env.cells.lookup x).getD 0)
  | [], _, h => .inl h
  | (n, k) :: l, cs, h => by
    rcases clF_mem l _ h with h | ⟨h1, h2⟩
    · unfold clF at h
      by_cases hk : (k == NameKind.free) = true
      · rw [if_pos hk] at h
        rcases List.mem_cons.mp h with e | h
        · cases e
          exact .inr ⟨by rw [eq_of_beq hk]; exact List.mem_cons_self, rfl⟩
        · exact .inl h
      · rw [if_neg hk] at h
        exact .inl h
    · exact .inr ⟨List.mem_cons_of_mem _ h1, h2⟩
theorem clF_has {env : Env} {x : Str} : ∀ (l : List (Str × NameKind)) (cs : List (Str × Addr)), ((x, NameKind.free) ∈ l ∨ ∃ c, (x, c) ∈ cs) → ∃ c, (x, c) ∈ l.foldl (clF env) cs
  | [], _, h => by
    rcases h with h | h
    · cases h
    · exact h
  | (n, k) :: l, cs, h => by
    refine clF_has l _ ?_
    rcases h with h | ⟨c, h⟩
    · rcases List.mem_cons.mp h with e | h
      · cases e
        right
        refine ⟨(env.cells.lookup x).getD 0, ?_⟩
        unfold clF
        rw [if_pos (by rfl)]
        exact List.mem_cons_self
      · exact .inl h
    · right
      refine ⟨c, ?_⟩
      unfold clF
      split
      · exact List.mem_cons_of_mem _ h
      · exact h
theorem lookup_mem {α : Type} {x : Str} {c : α} : ∀ {l : List (Str × α)}, l.lookup x = some c → (x, c) ∈ l
  | [], h => by simp at h
  | (n, k) :: l, h => by
    by_cases e : x = n
    · subst e
      simp only [List.lookup_cons, beq_self_eq_true] at h
      cases h
      exact List.mem_cons_self
    · have : (x == n) = false := by simpa using e
      simp only [List.lookup_cons, this] at h
      exact List.mem_cons_of_mem _ (lookup_mem h)
theorem mem_lookup {α : Type} {x : Str} {c : α} : ∀ {l : List (Str × α)}, (x, c) ∈ l → ∃ c', l.lookup x = some c'
  | [], h => by cases h
  | (n, k) :: l, h => by
    by_cases e : x = n
    · subst e; exact ⟨k, by simp [List.lookup_cons]⟩
    · have : (x == n) = false := by simpa using e
      rcases List.mem_cons.mp h with q | q
      · cases q; exact absurd rfl e
      · obtain ⟨c', h'⟩ := mem_lookup q
        exact ⟨c', by simpa [List.lookup_cons, this] using h'⟩
noncomputable def compCx (X : Cx) (Nc : List Str) (scope : Scope) (C : Addr) (s : Shared) (H : Hp) (fp : List Addr) : Cx where
  prog := X.prog
  w := X.w
  K := X.K
  mg := X.mg
  base := X.base
  A := X.A
  N := Nc
  s₀ := s
  H₀ := H
  env := compEnvC scope (clOf scope X.env) C X.env
  outer := X.stack
  stack := X.stack
  ex := fp
  fn := fun _ => false
  calm := true
  pn := []
  xe := fun _ _ => False
noncomputable def compOk (psc : Scope) (PN : List Str) (scope : Scope) (Nc : List Str) (caps : List (Option Nat)) : Bool :=
  decide (scope.kind = .function) && scope.names.all (fun x => decide (x.2 ≠ .cell)) && scope.names.all (fun x => decide (x.2 = .local → scope.names.lookup x.1 = some .local)) &&
  scope.names.all (fun x => decide (x.2 = .free → scope.names.lookup x.1 = some .free ∧ (psc.names.lookup x.1 = some .cell ∨ psc.names.lookup x.1 = some .free))) && decide Nc.Nodup && decide (caps.length = Nc.length) &&
  (caps.zip Nc).all (fun q => match q.1 with | none => true | some j => decide (PN[j]? = some q.2) && decide ((q.2, NameKind.free) ∈ scope.names))
structure CompSc (X : Cx) (scope : Scope) (Nc : List Str) (caps : List (Option Nat)) : Prop where
  kind : scope.kind = .function
  nocell : ∀ x ∈ scope.names, x.2 ≠ .cell
  names : ∀ x ∈ scope.names, x.2 = .local → scope.names.lookup x.1 = some .local
  free : ∀ x ∈ scope.names, x.2 = .free → X.env.kindOf x.1 = some .cell ∨ X.env.kindOf x.1 = some .free
  sole : ∀ x ∈ scope.names, x.2 = .free → scope.names.lookup x.1 = some .free
  nd : Nc.Nodup
  len : caps.length = Nc.length
  caps : ∀ (i j : Nat) (x : Str), caps[i]? = some (some j) → Nc[i]? = some x → X.N[j]? = some x ∧ (x, NameKind.free) ∈ scope.names
theorem compSc {X : Cx} {psc : Scope} {PN : List Str} {scope : Scope} {Nc : List Str} {caps : List (Option Nat)} (h : compOk psc PN scope Nc caps = true) (h1 : X.env.scope = psc) (h2 : X.N = PN) : CompSc X scope Nc caps := by
  unfold compOk at h
  simp only [Bool.and_eq_true, decide_eq_true_eq, List.all_eq_true] at h
  obtain ⟨⟨⟨⟨⟨⟨a, b⟩, c⟩, d⟩, e⟩, f⟩, g⟩ := h
  refine ⟨a, b, c, fun x hx hf => ?_, fun x hx hf => (d x hx hf).1, e, f, fun i j x hi hj => ?_⟩
  · have := (d x hx hf).2
    show X.env.scope.names.lookup x.1 = _ ∨ X.env.scope.names.lookup x.1 = _
    rw [h1]; exact this
  · have hm : (some j, x) ∈ caps.zip Nc := List.mem_of_getElem? (i := i) (by rw [List.getElem?_zip_eq_some]; exact ⟨hi, hj⟩)
    have := g _ hm
    simp only [Bool.and_eq_true, decide_eq_true_eq] at this
    rw [h2]
    exact this
noncomputable def pick {α : Type} (caps : List (Option Nat)) (l : List (Option α)) : List (Option α) := caps.map fun o => o.bind fun j => (l[j]?).join
theorem pick_get {α : Type} {caps : List (Option Nat)} {l : List (Option α)} {i : Nat} {v : α} (h : (pick caps l)[i]? = some (some v)) : ∃ j, caps[i]? = some (some j) ∧ l[j]? = some (some v) := by
  unfold pick at h
  rw [List.getElem?_map] at h
  cases q : caps[i]? with
  | none => rw [q] at h; cases h
  | some o =>
    rw [q] at h
    cases o with
    | none => simp at h
    | some j =>
      refine ⟨j, rfl, ?_⟩
      simp only [Option.map_some, Option.bind_some, Option.some.injEq] at h
      cases z : l[j]? with
      | none => rw [z] at h; simp at h
      | some u => rw [z] at h; simp only [Option.join_some] at h; rw [h]
theorem get_pick {α : Type} {caps : List (Option Nat)} {l : List (Option α)} {i j : Nat} {v : α} (h : caps[i]? = some (some j)) (h' : l[j]? = some (some v)) : (pick caps l)[i]? = some (some v) := by
  unfold pick
  rw [List.getElem?_map, h]
  simp [h']
section
variable {X : Cx} {pins : List (Addr × Obj)} {σ : St} {H : Hp} {s : Shared} {scope : Scope} {Nc : List Str} {caps : List (Option Nat)} {fp : List Addr} {ρ : Rho} {G : Gs}
theorem clOf_cell (I : Inv X pins σ H s) (Sc : CompSc X scope Nc caps) {x : Str} {c : Addr} (h : (clOf scope X.env).lookup x = some c) : X.env.cells.lookup x = some c ∧ (x, NameKind.free) ∈ scope.names := by
  rcases clF_mem _ _ (lookup_mem h) with h | ⟨h1, h2⟩
  · cases h
  · obtain ⟨c', hc⟩ := I.ok.has x (Sc.free _ h1 rfl)
    rw [hc] at h2
    exact ⟨by rw [hc, h2]; rfl, h1⟩
theorem clOf_of (I : Inv X pins σ H s) (Sc : CompSc X scope Nc caps) {x : Str} (h : (x, NameKind.free) ∈ scope.names) : ∃ c, (clOf scope X.env).lookup x = some c ∧ X.env.cells.lookup x = some c := by
  obtain ⟨c, hm⟩ := clF_has (env := X.env) scope.names [] (.inl h)
  obtain ⟨c', hc⟩ := mem_lookup hm
  exact ⟨c', hc, (clOf_cell I Sc hc).1⟩
theorem relabel_kind {env : Env} {x : Str} : ∀ {names : List (Str × NameKind)} {k : NameKind}, (names.map fun (n, k) => if (k == NameKind.free && env.scope.kind == .function && env.kindOf n == some .cell) then (n, NameKind.cell) else (n, k)).lookup x = some k →
    ∃ k', (x, k') ∈ names ∧ (k = k' ∨ (k' = .free ∧ k = .cell))
  | [], _, h => by simp at h
  | (n, k0) :: r, k, h => by
    rw [List.map_cons] at h
    by_cases e : x = n
    · subst e
      by_cases hc : (k0 == NameKind.free && env.scope.kind == .function && env.kindOf x == some .cell) = true
      · simp only [hc, if_true, List.lookup_cons, beq_self_eq_true] at h
        cases h
        simp only [Bool.and_eq_true] at hc
        exact ⟨k0, List.mem_cons_self, .inr ⟨eq_of_beq hc.1.1, rfl⟩⟩
      · simp only [hc, Bool.false_eq_true, if_false, List.lookup_cons, beq_self_eq_true] at h
        cases h
        exact ⟨k0, List.mem_cons_self, .inl rfl⟩
    · have hx : (x == n) = false := by simpa using e
      have : (List.map (fun (x : Str × NameKind) => match x with | (n, k) => if (k == NameKind.free && env.scope.kind == .function && env.kindOf n == some .cell) then (n, NameKind.cell) else (n, k)) r).lookup x = some k := by
        by_cases hc : (k0 == NameKind.free && env.scope.kind == .function && env.kindOf n == some .cell) = true
        · simp only [hc, if_true, List.lookup_cons, hx] at h; exact h
        · simp only [hc, Bool.false_eq_true, if_false, List.lookup_cons, hx] at h; exact h
      obtain ⟨k', h1, h2⟩ := relabel_kind this
      exact ⟨k', List.mem_cons_of_mem _ h1, h2⟩
theorem relabel_free {env : Env} {x : Str} : ∀ {names : List (Str × NameKind)}, names.lookup x = some .free → (names.map fun (n, k) => if (k == NameKind.free && env.scope.kind == .function && env.kindOf n == some .cell) then (n, NameKind.cell) else (n, k)).lookup x = some .cell ∨
    (names.map fun (n, k) => if (k == NameKind.free && env.scope.kind == .function && env.kindOf n == some .cell) then (n, NameKind.cell) else (n, k)).lookup x = some .free
  | [], h => by simp at h
  | (n, k0) :: r, h => by
    rw [List.map_cons]
    by_cases e : x = n
    · subst e
      simp only [List.lookup_cons, beq_self_eq_true] at h
      cases h
      by_cases hc : (NameKind.free == NameKind.free && env.scope.kind == .function && env.kindOf x == some .cell) = true
      · left
        show List.lookup x ((if (NameKind.free == NameKind.free && env.scope.kind == .function && env.kindOf x == some .cell) = true then (x, NameKind.cell) else (x, NameKind.free)) :: _) = _
        rw [if_pos hc, List.lookup_cons, beq_self_eq_true]
      · right
        show List.lookup x ((if (NameKind.free == NameKind.free && env.scope.kind == .function && env.kindOf x == some .cell) = true then (x, NameKind.cell) else (x, NameKind.free)) :: _) = _
        rw [if_neg hc, List.lookup_cons, beq_self_eq_true]
    · have hx : (x == n) = false := by simpa using e
      simp only [List.lookup_cons, hx] at h
      have ih := relabel_free (env := env) h
      by_cases hc : (k0 == NameKind.free && env.scope.kind == .function && env.kindOf n == some .cell) = true
      · simp only [hc, if_true, List.lookup_cons, hx]; exact ih
      · simp only [hc, Bool.false_eq_true, if_false, List.lookup_cons, hx]; exact ih
theorem comp_enter (I : Inv X pins σ H s) (Sc : CompSc X scope Nc caps) (hcalm : X.calm = true) {h₁ : Heap} {tk : Nat} (hf : ∀ b ∈ fp, FpOk X pins H b) (hlt : ∀ b ∈ fp, b < s.heap.objs.size)
    (hns : ∃ m, h₁.Ns s.heap.objs.size m) (hk : ∀ b u, s.heap.get? b = some u → h₁.get? b = some u) :
    Inv (compCx X Nc scope s.heap.objs.size s H fp) [] (pick caps σ) H { s with heap := h₁, toks := tk } := by
  have kindX : ∀ x, ((compCx X Nc scope s.heap.objs.size s H fp).env.kindOf x = some .cell ∨ (compCx X Nc scope s.heap.objs.size s H fp).env.kindOf x = some .free) → (x, NameKind.free) ∈ scope.names := fun x hx => by
    have hh : ∃ k, (k = NameKind.cell ∨ k = NameKind.free) ∧ (compCx X Nc scope s.heap.objs.size s H fp).env.kindOf x = some k := by
      rcases hx with h | h
      · exact ⟨_, .inl rfl, h⟩
      · exact ⟨_, .inr rfl, h⟩
    obtain ⟨k, hk, h⟩ := hh
    obtain ⟨k', h1, h2⟩ := relabel_kind (env := X.env) h
    rcases h2 with e | ⟨e, _⟩
    · subst e
      rcases hk with e | e
      · subst e; exact absurd rfl (Sc.nocell _ h1)
      · subst e; exact h1
    · subst e; exact h1
  refine ⟨?_, rfl, I.bare, Un.kept hk, ?_, fun x c e => ?_, ?_, fun x c e => ?_, fun p hp => ?_, I.hok.kept hk, ?_⟩
  · refine ⟨I.ok.mod, Sc.kind, I.ok.glob, I.ok.blt, Nat.le_refl _, fun x y c h1 h2 => ?_, fun x h => ?_, fun x c h => ?_, fun _ => I.ok.hd hcalm, I.ok.frames, .inl rfl, fun b hb => ?_, I.bs, Nat.le_trans I.ok.bsz I.sz, fun b o e hb => ?_, fun b hb hb' => ?_, I.stack, I.stkFree⟩
    · exact I.ok.inj x y c (clOf_cell I Sc h1).1 (clOf_cell I Sc h2).1
    · obtain ⟨c, h1, _⟩ := clOf_of I Sc (kindX x h)
      exact ⟨c, h1⟩
    · exact absurd h Bool.false_ne_true
    · exact ⟨Nat.ne_of_lt (hlt b hb), fun x c e => (hf b hb).2.2.2.2.1 x c (clOf_cell I Sc e).1⟩
    · rcases (hf b hb).2.2.2.1 with z | z
      · exact I.ok.noex b o e z
      · exact absurd (Nat.lt_of_lt_of_le (Heap.lt_size e) (Nat.le_trans I.ok.bsz z)) (Nat.lt_irrefl _)
    · rcases List.mem_cons.mp (I.stkSub b hb') with z | z
      · exact (hf b hb).2.1 z
      · exact (hf b hb).2.2.1 z
  · obtain ⟨m, hm⟩ := hns
    refine ⟨m, hm, fun i x v h1 h2 h3 => ?_⟩
    obtain ⟨j, hj, hv⟩ := pick_get h2
    obtain ⟨hN, hfr⟩ := Sc.caps i j x hj h1
    obtain ⟨c, hc1, hc2⟩ := clOf_of I Sc hfr
    have kx := Sc.free _ hfr rfl
    obtain ⟨m0, _, hl⟩ := I.loc
    obtain ⟨u, ru, lk⟩ := hl j x v hN hv (by rcases kx with z | z; exact .inr (.inl z); exact .inr (.inr z))
    refine ⟨u, ru, ?_⟩
    rcases lk with ⟨z, _⟩ | ⟨_, c', e', cell⟩
    · rcases kx with y | y <;> (have y' : X.env.kindOf x = _ := y; rw [z] at y'; cases y')
    · rw [hc2] at e'
      cases e'
      exact .inr ⟨relabel_free (Sc.sole _ hfr rfl), c, hc1, cell.keeps hk⟩
  · obtain ⟨v, z⟩ := I.cell x c (clOf_cell I Sc e).1
    exact ⟨v, z.keeps hk⟩
  · exact I.hok.fresh (Nat.le_refl _)
  · exact I.freeC x c (clOf_cell I Sc e).1
  · cases hp
  · unfold pick; rw [List.length_map]; exact Sc.len
end
end TF
namespace TF
open PySem PySem.Spec L2
open PyProof.Rows hiding St RelV
theorem comp_leave {X : Cx} {pins : List (Addr × Obj)} {σ σc : St} {H Hf : Hp} {s sf : Shared} {scope : Scope} {Nc : List Str} {fp : List Addr} {h' : Heap} (I : Inv X pins σ H s) (hf : ∀ b ∈ fp, FpOk X pins H b)
    (Ic : Inv (compCx X Nc scope s.heap.objs.size s H fp) [] σc Hf sf) (hs : Heap.SameBut s.heap.objs.size sf.heap h') : Inv X pins σ Hf { sf with heap := h' } := by
  have hch : ∀ b ∈ fp, (b ∈ X.ex ∨ X.s₀.heap.objs.size ≤ b) ∧ b ≠ X.env.locals ∧ (∀ x c, X.env.cells.lookup x = some c → c ≠ b) ∧ ∀ p ∈ X.pn ++ pins, p.1 ≠ b := fun b hb =>
    ⟨(hf b hb).2.2.2.1, (hf b hb).2.1, (hf b hb).2.2.2.2.1, (hf b hb).2.2.2.2.2⟩
  have I1 : Inv X pins σ Hf sf := I.call' Ic.os Ic.base Ic.hok Ic.bare hch
  have hC : Hf s.heap.objs.size = none := Ic.free
  refine I1.turned (t' := sf.toks) (it := s.heap.objs.size) (fun b o hb e => hs.extBut b o hb e) hC (Nat.ne_of_gt I.lt) (.inr I.sz) (fun x c e z => ?_) fun p hp z => ?_
  · obtain ⟨v, o, ho, _⟩ := I.cell x c e
    rw [z] at ho
    exact absurd (Heap.lt_size ho) (Nat.lt_irrefl _)
  · have := (I.pin p hp).1
    rw [z] at this
    exact absurd (Heap.lt_size this) (Nat.lt_irrefl _)
noncomputable def emitT (elt : Expr) (env : Env) (acc : Value) : Sem Unit := eval elt env >>= fun x => call (.builtin "list.append") [acc, x] >>= fun _ => pure ()
noncomputable def testT (c elt : Expr) (env : Env) (acc : Value) : Sem Unit := isTrue c env (eval c env) >>= fun ok => if ok = true then emitT elt env acc else pure ()
noncomputable def TurnIs (elt target iter : Expr) (ifs : List Expr) (scope : Scope) (pos : Pos) (tail : Env → Value → Sem Unit) : Prop :=
  ∀ (it acc : Value) (env : Env), compTurn (.ListComp elt [⟨target, iter, ifs, 0⟩] scope pos) 0 it acc env = (standAt iter.pos >>= fun _ => pyNext it >>= fun r => match r with
      | none => pure (.done .next)
      | some v => letOwnedTupleGo target it v >>= fun _ => assign target env v >>= fun _ => tail env acc >>= fun _ =>
          again (.compLoop (.ListComp elt [⟨target, iter, ifs, 0⟩] scope pos) 0 it acc env))
theorem turnIs_0 (elt target iter : Expr) (scope : Scope) (pos : Pos) : TurnIs elt target iter [] scope pos (emitT elt) := fun it acc env => by rfl
theorem turnIs_1 (elt target iter c : Expr) (scope : Scope) (pos : Pos) : TurnIs elt target iter [c] scope pos (testT c elt) := fun it acc env => by
  have e : compTurn (.ListComp elt [⟨target, iter, [c], 0⟩] scope pos) 0 it acc env = (standAt iter.pos >>= fun _ => pyNext it >>= fun r => match r with
      | none => pure (.done .next)
      | some v => letOwnedTupleGo target it v >>= fun _ => assign target env v >>= fun _ =>
          (forIn [c] true fun c r => if r = true then (isTrue c env (eval c env) >>= fun ok => pure (ForInStep.yield ok)) else pure (ForInStep.yield r)) >>= fun ok =>
            if ok = true then (emitT elt env acc >>= fun _ => again (.compLoop (.ListComp elt [⟨target, iter, [c], 0⟩] scope pos) 0 it acc env)) else again (.compLoop (.ListComp elt [⟨target, iter, [c], 0⟩] scope pos) 0 it acc env)) := by rfl
  rw [e]
  refine congrArg _ (funext fun _ => congrArg _ (funext fun r => ?_))
  cases r with
  | none => rfl
  | some v =>
    refine congrArg (letOwnedTupleGo target it v >>= ·) (funext fun _ => congrArg (assign target env v >>= ·) (funext fun _ => ?_))
    unfold testT
    simp only [List.forIn_cons, List.forIn_nil, if_true, bind_assoc, pure_bind]
    refine congrArg (isTrue c env (eval c env) >>= ·) (funext fun ok => ?_)
    cases ok <;> simp
noncomputable def WTail (Xc : Cx) (ρ : Rho) (G : Gs) (tl : Sem Unit) (Q : Gs → Prop) : Prop :=
  ∀ (pins : List (Addr × Obj)) (s : Shared) (σ : St) (H : Hp), Inv Xc pins σ H s → Stt Xc H σ ρ G → wpAny (model Xc.prog Xc.w) Xc.A tl (fun _ s' => ∃ H' G', Inv Xc pins σ H' s' ∧ Ext H G H' G' ∧ GOk Xc.K H' G' ∧ Q G') (fun _ _ => False) s
section
variable {X : Cx} {pins : List (Addr × Obj)} {σ : St} {H : Hp} {s : Shared} {scope : Scope} {Nc : List Str} {caps : List (Option Nat)} {ρ : Rho} {G : Gs} {elt target iter c : Expr} {ifs : List Expr} {cpos : Pos} {l : List Dat} {f : Dat → Rho → Option Rho} {tail : Env → Value → Sem Unit}
theorem comp_core (Pv : Nat → List Dat → Gs → Prop) (ht : TurnIs elt target iter ifs scope cpos tail) (Sc : CompSc X scope Nc caps) (hcalm : X.calm = true)
    (hg : ∀ C s' H' fp, PGD (compCx X Nc scope C s' H' fp) target f) (hle : ∀ d ρ', f d (pick caps ρ) = some ρ' → ρ'.length = (pick caps ρ).length ∧ ∀ (j : Nat) e, (pick caps ρ)[j]? = some (some e) → ρ'[j]? = some (some e)) (hz : l.length ≤ sizeLine)
    (hstep : ∀ C s' H' fp D i d acc G', l[i]? = some d → Pv i acc G' → G' D = none → ∃ ρ', f d (pick caps ρ) = some ρ' ∧
      WTail (compCx X Nc scope C s' H' fp) ρ' (put G' D (.lst acc)) (tail (compCx X Nc scope C s' H' fp).env (.ref D)) fun G'' => ∃ acc' G4, acc'.length ≤ acc.length + 1 ∧ G4 D = none ∧ G'' = put G4 D (.lst acc') ∧ Pv (i + 1) acc' G4)
    {it : Addr} {fp : List Addr} {tn : Nat → Heap → Prop} {J : It} (I : Inv X pins σ H s) (S : Stt X H σ ρ G) (T : Turn X.prog X.w X.K target J fp it tn) (st : tn 0 s.heap) (hf : ∀ b ∈ fp, FpOk X pins H b) (wk : Wk X.K J H G l) (p0 : Pv 0 [] G)
    {E : Value → Shared → Prop} {RR : Value → Addr → Result → Shared → Prop}
    (hRR : ∀ D C s3 sf σc Hf Gf acc, (∀ b o, s.heap.get? b = some o → s3.heap.get? b = some o) → C = s3.heap.objs.size → (∃ H3, Inv X pins σ H3 s3 ∧ (∀ b ∈ fp, FpOk X pins H3 b) ∧ Inv (compCx X Nc scope C s3 H3 fp) [] σc Hf sf) → Ext H G Hf (put Gf D (.lst acc)) → GOk X.K Hf (put Gf D (.lst acc)) → Gf D = none → Pv l.length acc Gf → RR (.ref D) C (.ok .next) sf) :
    wpAny (model X.prog X.w) X.A (newList []) (fun acc s₃ => wpAny (model X.prog X.w) X.A (newFunctionEnv scope X.env.globals (clOf scope X.env) [] X.env.qual none .none (some X.env)) (fun cenv s₄ =>
      codeAny (model X.prog X.w) X.A (.compStart (.ListComp elt [⟨target, iter, ifs, 0⟩] scope cpos) 0 (.ref it) acc { cenv with scope := relabel scope X.env }) (RR acc cenv.locals) s₄) E s₃) E s := by
  refine wpAny_newObj_type (wpAny_newFunctionEnv Sc.nocell (by intro y hy; simp at hy) (fun h₁ hns₁ hsb₁ => ?_) Sc.kind)
  dsimp only at hns₁ hsb₁ ⊢
  have I3 : Inv X pins σ (upd H s.heap.objs.size (.lst [])) { s with heap := s.heap.push { cls := .type "list", data := .seq ([] : List Value).toArray }, toks := s.toks } := I.lnew (ys := []) (its := []) .nil (Nat.zero_le _)
  have hD : H s.heap.objs.size = none := I.hok.fresh (Nat.le_refl _)
  obtain ⟨E3, O3⟩ := own_new (X := X) (ds := []) S.own hD RepL.nil
  have lt2 : ∀ b ∈ fp, b < s.heap.objs.size := fun b hb => by obtain ⟨o, e, _⟩ := T.obj 0 _ st b hb; exact Heap.lt_size e
  have ne2 : ∀ b ∈ fp, b ≠ s.heap.objs.size := fun b hb => Nat.ne_of_lt (lt2 b hb)
  have f3 : ∀ b ∈ fp, FpOk X pins (upd H s.heap.objs.size (.lst [])) b := fun b hb => ⟨by rw [upd_ne (ne2 b hb)]; exact (hf b hb).1, (hf b hb).2⟩
  generalize hs3 : ({ s with heap := s.heap.push { cls := .type "list", data := .seq ([] : List Value).toArray }, toks := s.toks } : Shared) = s3 at I3
  have e3 : s3.heap = s.heap.push { cls := .type "list", data := .seq ([] : List Value).toArray } := by rw [← hs3]
  have k3 : ∀ b o, s.heap.get? b = some o → s3.heap.get? b = some o := fun b o e => by rw [e3]; exact Heap.get?_push_of_some _ e
  have hC : s3.heap.objs.size = s.heap.objs.size + 1 := by rw [e3, Heap.size_push]
  have lt3 : ∀ b ∈ fp, b < s3.heap.objs.size := fun b hb => by rw [hC]; exact Nat.lt_succ_of_lt (lt2 b hb)
  rw [← e3] at hns₁ hsb₁
  have hk : ∀ b u, s3.heap.get? b = some u → h₁.get? b = some u := fun b u e => hsb₁.extBut b u (Nat.ne_of_lt (Heap.lt_size e)) (Heap.get?_push_of_some _ e)
  have Ic := comp_enter (tk := s.toks + ([] : List (Str × Value)).length) I3 Sc hcalm f3 lt3 ⟨_, hns₁⟩ hk
  have st1 : tn 0 h₁ := T.keep _ _ _ st fun b hb o e => hk b o (k3 b o e)
  have Sc0 : Stt (compCx X Nc scope s3.heap.objs.size s3 (upd H s.heap.objs.size (.lst [])) fp) (upd H s.heap.objs.size (.lst [])) (pick caps σ) (pick caps ρ) (put G s.heap.objs.size (.lst [])) := by
    refine ⟨fun i d h => ?_, by unfold pick; rw [List.length_map, List.length_map], O3⟩
    obtain ⟨j, hj, hd⟩ := pick_get h
    obtain ⟨v, hv, rv⟩ := S.env j d hd
    exact ⟨v, get_pick hj hv, rv.same E3.hid⟩
  have wk3 : ∀ H' G', Ext (upd H s.heap.objs.size (.lst [])) (put G s.heap.objs.size (.lst [])) H' G' → Ext H G H' G' := fun H' G' e => E3.trans e
  have loop : ∀ s4 : Shared, s4 = { s3 with heap := h₁, toks := s.toks + ([] : List (Str × Value)).length } →
      codeAny (model X.prog X.w) X.A (.compLoop (.ListComp elt [⟨target, iter, ifs, 0⟩] scope cpos) 0 (.ref it) (.ref s.heap.objs.size) (compCx X Nc scope s3.heap.objs.size s3 (upd H s.heap.objs.size (.lst [])) fp).env) (RR (.ref s.heap.objs.size) s3.heap.objs.size) s4 := by
    rintro s4 rfl
    refine codeAny_loop rfl (fun n s' => ∃ i acc σ' H' G', i + n = l.length ∧ acc.length ≤ i ∧ Inv (compCx X Nc scope s3.heap.objs.size s3 (upd H s.heap.objs.size (.lst [])) fp) [] σ' H' s' ∧ tn i s'.heap ∧ (∀ b ∈ fp, H' b = none) ∧
        Ext (upd H s.heap.objs.size (.lst [])) (put G s.heap.objs.size (.lst [])) H' (put G' s.heap.objs.size (.lst acc)) ∧ Stt (compCx X Nc scope s3.heap.objs.size s3 (upd H s.heap.objs.size (.lst [])) fp) H' σ' (pick caps ρ) (put G' s.heap.objs.size (.lst acc)) ∧ G' s.heap.objs.size = none ∧ Pv i acc G') ?_ l.length
      ⟨0, [], _, _, G, Nat.zero_add _, Nat.le_refl _, Ic, st1, fun b hb => (f3 b hb).1, Ext.refl, Sc0, S.own.free hD, p0⟩
    rintro n s5 ⟨i, acc, σ5, H5, G5, hn, hacc, I5, st5, fr5, e5, S5, hG5, p5⟩
    show wpAny (model X.prog X.w) X.A ((compTurn (.ListComp elt [⟨target, iter, ifs, 0⟩] scope cpos) 0 (.ref it) (.ref s.heap.objs.size) (compCx X Nc scope s3.heap.objs.size s3 (upd H s.heap.objs.size (.lst [])) fp).env).onRaise (fun x => do noteFrame x (compCx X Nc scope s3.heap.objs.size s3 (upd H s.heap.objs.size (.lst [])) fp).env; theTreesLotGoes x)) _ _ s5
    refine wpAny_noted ?_
    rw [ht]
    refine wpAny_bind (wpAny_standAt (wpAny_bind ?_))
    have stat : ∀ {H' : Hp}, (∀ b ∈ fp, H' b = none) → ∀ b ∈ fp, FpOk (compCx X Nc scope s3.heap.objs.size s3 (upd H s.heap.objs.size (.lst [])) fp) [] H' b := fun hn b hb =>
      ⟨hn b hb, Nat.ne_of_lt (lt3 b hb), Ic.ok.exfs b hb, .inl hb, (Ic.ok.exf b hb).2, fun p hp => by cases hp⟩
    obtain ⟨wk1, wk2⟩ := wk H5 _ (wk3 _ _ e5)
    cases n with
    | zero =>
      have hn' : i = l.length := by omega
      subst hn'
      refine thn (T.done (compCx X Nc scope s3.heap.objs.size s3 (upd H s.heap.objs.size (.lst [])) fp) rfl rfl rfl rfl _ [] s5 σ5 H5 _ I5 (stat fr5) st5 wk2) fun r s6 ⟨hr, I6⟩ => ?_
      subst hr
      exact wpAny_pure (hRR _ _ s3 s6 σ5 H5 G5 acc k3 rfl ⟨_, I3, f3, I6⟩ (wk3 _ _ e5) S5.own hG5 p5)
    | succ n =>
      have hlt : i < l.length := by omega
      obtain ⟨go, wk1⟩ := wk1 i _ (List.getElem?_eq_getElem hlt)
      obtain ⟨ρ6, hf6, w6⟩ := hstep s3.heap.objs.size s3 (upd H s.heap.objs.size (.lst [])) fp s.heap.objs.size i _ acc G5 (List.getElem?_eq_getElem hlt) p5 hG5
      refine thn (T.item (compCx X Nc scope s3.heap.objs.size s3 (upd H s.heap.objs.size (.lst [])) fp) rfl rfl rfl rfl i [] s5 σ5 H5 _ I5 (stat fr5) st5 go) fun r s6 ⟨u, hr, h6⟩ => ?_
      subst hr
      refine wpAny_bind (thn h6 fun _ s7 ⟨x, H7, I7, r7, y7, st7, fr7⟩ => ?_)
      obtain ⟨e7, o7, rep7'⟩ := wk1 x H7 y7
      have rep7 := rep7' S5.own
      have I7' := I7.pinned (stat fr7) (T.obj _ _ st7)
      refine wpAny_bind (wpAny_mono (hg _ _ _ _ _ s7 σ5 H7 x u (pick caps ρ) ρ6 _ _ I7' r7 (S5.ext e7 (o7 S5.own)) rep7 hf6) (fun _ s8 ⟨σ8, H8, I8, e8, S8⟩ => ?_) fun _ _ z => z.elim)
      refine wpAny_bind (wpAny_mono (w6 _ s8 σ8 H8 I8 S8) (fun _ s9 ⟨H9, G9, I9, e9, o9, acc', G4, hl4, hG4, eG, p9⟩ => ?_) fun _ _ z => z.elim)
      subst eG
      refine wpAny_pure ⟨rfl, n, Nat.lt_succ_self _, i + 1, acc', σ8, H9, G4, by omega, by omega, I9.unpinned (pins := []), T.keep _ _ _ st7 fun b hb o e => (I9.pin (b, o) (List.mem_append_right _ (List.mem_append_right _ (mem_pinsAt hb e)))).1, fun b hb => ?_, e5.trans (e7.trans (e8.trans e9)), ?_, hG4, p9⟩
      · obtain ⟨o, e, d⟩ := T.obj _ _ st7 b hb
        exact (I9.pin (b, o) (List.mem_append_right _ (List.mem_append_right _ (mem_pinsAt hb e)))).2.1
      · obtain ⟨z1, z2⟩ := hle _ _ hf6
        have S9 := S8.ext e9 o9
        exact ⟨fun j e h => S9.env j e (z2 j e h), by rw [← S9.len, z1], o9⟩
  subst hs3
  exact codeAny_compStart_list (loop _ rfl) (T.self _ 0 _ _ _ st1 (loop _ rfl))
theorem wtail_emit {Xc : Cx} {ρ : Rho} {G : Gs} {D : Addr} {acc : List Dat} {Q : Gs → Prop} (hx : Xc.xe = fun _ _ => False) (hG : G D = some (.lst acc)) (hz : acc.length < sizeLine)
    (h : WE Xc ρ G elt fun v G' => G' D = some (.lst acc) ∧ Q (put G' D (.lst (acc ++ [v])))) : WTail Xc ρ G (emitT elt Xc.env (.ref D)) Q := by
  intro pins s σ H I S
  unfold emitT
  have h' := h pins s σ H I S
  rw [hx] at h'
  refine wpAny_bind (thn h' fun u s1 ⟨x, H1, I1, r1, d, G1, e1, o1, q1, hG1, z1⟩ => ?_)
  obtain ⟨vs, h1, r2⟩ := o1 D _ hG1
  have := mt_append (X := Xc) pins s1 σ H1 (.ref D) [x] (.ref D) [u] (fun _ H' => ∃ G', Ext H G H' G' ∧ GOk Xc.K H' G' ∧ Q G') I1 rfl (.cons r1 .nil) ⟨D, vs, x, rfl, rfl, h1, by rw [r2.length]; exact hz, by
    obtain ⟨E, O⟩ := own_set o1 hG1 (r2.append (RepL.cons q1 RepL.nil))
    exact ⟨_, e1.trans E, O, z1⟩⟩
  rw [hx] at this
  refine wpAny_bind (thn this fun _ s2 ⟨_, H2, I2, _, G2, e2, o2, z2⟩ => wpAny_pure ⟨H2, G2, I2, e2, o2, z2⟩)
theorem wtail_test {Xc : Cx} {ρ : Rho} {G : Gs} {D : Addr} {Q : Gs → Prop} (hx : Xc.xe = fun _ _ => False)
    (h : WT Xc ρ G c fun p G' => (p = true → WTail Xc ρ G' (emitT elt Xc.env (.ref D)) Q) ∧ (p = false → Q G')) : WTail Xc ρ G (testT c elt Xc.env (.ref D)) Q := by
  intro pins s σ H I S
  unfold testT
  have h' := h pins s σ H I S
  rw [hx] at h'
  refine wpAny_bind (thn h' fun p s1 ⟨H1, I1, G1, e1, o1, q1⟩ => ?_)
  cases p with
  | true =>
    rw [if_pos rfl]
    exact thn (q1.1 rfl pins s1 σ H1 I1 (S.ext e1 o1)) fun _ s2 ⟨H2, G2, I2, e2, o2, z2⟩ => ⟨H2, G2, I2, e1.trans e2, o2, z2⟩
  | false =>
    rw [if_neg Bool.false_ne_true]
    exact wpAny_pure ⟨H1, G1, I1, e1, o1, q1.2 rfl⟩
theorem we_comp (Pv : Nat → List Dat → Gs → Prop) {Q : Dat → Gs → Prop} (ht : TurnIs elt target iter ifs scope cpos tail) (Sc : CompSc X scope Nc caps) (hcalm : X.calm = true) (hi : WI X ρ G target iter fun l' G' => l' = l ∧ Pv 0 [] G')
    (hg : ∀ C s' H' fp, PGD (compCx X Nc scope C s' H' fp) target f) (hle : ∀ d ρ', f d (pick caps ρ) = some ρ' → ρ'.length = (pick caps ρ).length ∧ ∀ (j : Nat) e, (pick caps ρ)[j]? = some (some e) → ρ'[j]? = some (some e)) (hz : l.length ≤ sizeLine)
    (hstep : ∀ C s' H' fp D i d acc G', l[i]? = some d → Pv i acc G' → G' D = none → ∃ ρ', f d (pick caps ρ) = some ρ' ∧
      WTail (compCx X Nc scope C s' H' fp) ρ' (put G' D (.lst acc)) (tail (compCx X Nc scope C s' H' fp).env (.ref D)) fun G'' => ∃ acc' G4, acc'.length ≤ acc.length + 1 ∧ G4 D = none ∧ G'' = put G4 D (.lst acc') ∧ Pv (i + 1) acc' G4)
    (hd : ∀ acc G', Pv l.length acc G' → Q (.lst acc) G') (hfs : ∀ x, foldedSetIterable iter X.env x = pure x := by intro _; rfl) : WE X ρ G (.ListComp elt [⟨target, iter, ifs, 0⟩] scope cpos) Q := by
  intro pins s σ H I S
  rw [eval_ListComp]
  refine wpAny_comprehension_free (use := none) rfl hfs (closureFor_ok fun x hx hf => I.ok.has x.1 (Sc.free x hx hf)) Sc.kind Sc.names ?_
  refine thn (hi pins s σ H I S) fun v s1 h1 => thn h1 fun itv s2 h2 => ?_
  obtain ⟨it, fp, tn, J, H2, e, I2, T, st2, f2, l', G2, e2, o2, wk, q, p0⟩ := h2
  subst e; subst q
  refine comp_core (RR := fun acc C => compPost (model X.prog X.w) X.A X.xe none (EP X pins σ (Po X H G Q)) acc C) Pv ht Sc hcalm hg hle hz hstep I2 (S.ext e2 o2) T st2 f2 wk p0 ?_
  rintro D C s3 sf σc Hf Gf acc k3 rfl ⟨H3, I3, f3, Ic⟩ ef of hGf pf
  obtain ⟨m, hm, _⟩ := Ic.loc
  refine ⟨m, hm, fun h' hs => ⟨.ref D, Hf, comp_leave I3 f3 Ic hs, rfl, .lst acc, Gf, ?_, ?_, ?_, hd acc Gf pf⟩⟩
  all_goals
    obtain ⟨E, O, R⟩ := own_rel (X := X) of put_same
    rw [rel_put hGf] at E O R
    first
    | exact e2.trans (ef.trans E)
    | exact O
    | exact R
end
end TF
namespace TF
open PySem PySem.Spec L2
open PyProof.Rows hiding St RelV
noncomputable abbrev SpD := List Dat → Gs → (Dat → Gs → Prop) → Prop
noncomputable def liftG (K : PySem.W.Frag) (S : SpD) : Sp := fun vs H Q _ => ∃ ds G R, GOk K H G ∧ RepL K (hid H G) ds vs ∧ S ds G R ∧ ∀ v H' d G', Ext H G H' G' → GOk K H' G' → Rep K (hid H' G') d v → R d G' → Q v H'
noncomputable def startD (N : List Str) (ds : List Dat) : Rho := ds.map some ++ List.replicate (N.length - ds.length) none
theorem stt_start {X : Cx} {H : Hp} {N : List Str} {ds : List Dat} {vs : List V} {G : Gs} (o : GOk X.K H G) (r : RepL X.K (hid H G) ds vs) : Stt X H (start N vs) (startD N ds) G := by
  refine ⟨fun i d h => ?_, by unfold L2.start startD; rw [List.length_append, List.length_append, List.length_map, List.length_map, r.length, List.length_replicate, List.length_replicate], o⟩
  unfold startD at h
  by_cases hi : i < ds.length
  · rw [List.getElem?_append_left (by rw [List.length_map]; exact hi), List.getElem?_map] at h
    cases q : ds[i]? with
    | none => rw [q] at h; cases h
    | some d' =>
      rw [q] at h
      cases h
      obtain ⟨v, hv, rv⟩ := r.get q
      refine ⟨v, ?_, rv⟩
      unfold L2.start
      rw [List.getElem?_append_left (by rw [List.length_map, r.length]; exact hi), List.getElem?_map, hv]
      rfl
  · rw [List.getElem?_append_right (by rw [List.length_map]; omega), List.length_map] at h
    exfalso
    have := List.mem_of_getElem? h
    rw [List.mem_replicate] at this
    cases this.2
section
variable {P : Program} {w : World} {K : PySem.W.Frag} {mg : Str → Option Value} {base : Heap}
theorem fn_d {x qual : Str} {st : Stmt} {f : Addr} {fd : FuncData} {N ps : List Str} {k : Nat} {S : SpD} (F : Fun K x qual st f fd) (Sc : FnScope N ps (defScope st)) (hlen : ∀ ds G R, S ds G R → ds.length = ps.length)
    (hb : ∀ (cdv : Value) (A : Around) (outer : List Env) (s : Shared) (H : Hp) (E : XK) (ds : List Dat) (G : Gs) (R : Dat → Gs → Prop), Room k (A.deeper (envOfC qual (defScope st) s.heap.objs.size f cdv)) → S ds G R →
      WSs (cxOf CX0 P w K mg base N qual (defScope st) f cdv A outer s H E).nox (startD N ds) G (defBody st) { nx := fun _ G' => R .non G', rt := R }) : FnOk P w K mg base CX0 (k + 1) f fd ps (liftG K S) := by
  refine F.ok Sc (fun vs H Q E h => ?_) (fun cdv A outer s H vs Q E hr h => ?_)
  · obtain ⟨ds, G, R, _, r, hS, _⟩ := h
    rw [r.length]; exact hlen ds G R hS
  · obtain ⟨ds, G, R, o, r, hS, k⟩ := h
    refine ⟨tWSs _ (defBody st), pss_ws, startD N ds, G, _, hb cdv A outer s H E ds G R hr hS, stt_start o r, ?_, ?_, ?_, ?_⟩
    · rintro σ' H' ⟨ρ', G', e', S', q⟩
      exact k .non H' .non G' e' S'.own rfl q
    · rintro v H' ⟨d, G', e', o', r', q⟩
      exact k v H' d G' e' o' r' q
    · rintro σ' H' ⟨_, _, _, _, q⟩; exact q
    · rintro σ' H' ⟨_, _, _, _, q⟩; exact q
end
section
variable {X : Cx} {ρ : Rho} {G : Gs} {e : Expr} {es : List Expr} {ds : List Dat} {pos p : Pos} {S : SpD} {k : Nat} {f : Addr} {fd : FuncData} {ps : List Str} {x : Str} {Q : Dat → Gs → Prop}
theorem we_call (F : FnOk X.prog X.w X.K X.mg X.base CX0 k f fd ps (liftG X.K S)) (hr : Room k X.A) (hm : X.mg x = some (.ref f)) (hk : PySem.W.keepIn X.K (.ref f) = true) (hb : Binds X.K fd ps []) (ha : PXs X ρ G (e :: es) ds) (hS : S ds G Q) (hg : Gl X x := by rfl)
    (hdb : (x == ("__debug__" : Str)) = false := by decide) (he : starEach (e :: es) X.env = (false, eval e X.env) :: starEach es X.env := by rfl) (hpl : (backTo pos (starEach es X.env)).any (·.1) = false := by rfl) : WE X ρ G (.Call (.Name x p) (e :: es) [] pos) Q :=
  we_pe (pe_call F hr hg hm hk hb .nil pass0 pa_wa hdb he hpl) fun σ H St => ⟨ρ, G, _, ha, St, fun vs H1 ⟨_, _, e1, o1, r1, q1, q1'⟩ => by
    subst q1; subst q1'
    refine ⟨_, _, Q, o1, by rw [List.append_nil]; exact r1, hS, fun v H' d G' e' o' r' q' => ⟨d, G', e1.trans e', o', r', q'⟩⟩⟩
end
structure Df (P : Program) (w : World) (K : PySem.W.Frag) (mg : Str → Option Value) (base : Heap) (x : Str) (ps : List Str) (k : Nat) (S : SpD) : Prop where
  ex : ∃ f fd, FnOk P w K mg base CX0 k f fd ps (liftG K S) ∧ mg x = some (.ref f) ∧ PySem.W.keepIn K (.ref f) = true ∧ Binds K fd ps []
section
variable {X : Cx} {ρ : Rho} {G : Gs} {e : Expr} {es : List Expr} {ds : List Dat} {pos p : Pos} {S : SpD} {k : Nat} {ps : List Str} {x : Str} {Q : Dat → Gs → Prop}
theorem we_df (F : Df X.prog X.w X.K X.mg X.base x ps k S) (hr : Room k X.A) (ha : PXs X ρ G (e :: es) ds) (hS : S ds G Q) (hg : Gl X x := by rfl)
    (hdb : (x == ("__debug__" : Str)) = false := by decide) (he : starEach (e :: es) X.env = (false, eval e X.env) :: starEach es X.env := by rfl) (hpl : (backTo pos (starEach es X.env)).any (·.1) = false := by rfl) : WE X ρ G (.Call (.Name x p) (e :: es) [] pos) Q := by
  obtain ⟨f, fd, F, hm, hk, hb⟩ := F.ex
  exact we_call F hr hm hk hb ha hS hg hdb he hpl
end
end TF
namespace TF
open PySem PySem.Spec L2
open PyProof.Rows hiding St RelV
mutual
noncomputable def Dat.same : Dat → Dat → Bool
  | .non, .non => true
  | .bl a, .bl b => a == b
  | .int a, .int b => a == b
  | .str a, .str b => a == b
  | .fn a, .fn b => a == b
  | .scr a, .scr b => a == b
  | .tup l, .tup m => Dat.sameL l m
  | .lst l, .lst m => Dat.sameL l m
  | _, _ => false
noncomputable def Dat.sameL : List Dat → List Dat → Bool
  | [], [] => true
  | x :: xs, y :: ys => Dat.same x y && Dat.sameL xs ys
  | _, _ => false
end
mutual
theorem Dat.same_eq : ∀ {a b : Dat}, Dat.same a b = true → a = b
  | .non, b, h => by cases b <;> simp_all [Dat.same]
  | .bl _, b, h => by cases b <;> simp_all [Dat.same]
  | .int _, b, h => by cases b <;> simp_all [Dat.same]
  | .str _, b, h => by cases b <;> simp_all [Dat.same]
  | .fn _, b, h => by cases b <;> simp_all [Dat.same]
  | .scr _, b, h => by cases b <;> simp_all [Dat.same]
  | .tup l, b, h => by
    cases b <;> simp only [Dat.same, Bool.false_eq_true] at h
    rw [Dat.sameL_eq h]
  | .lst l, b, h => by
    cases b <;> simp only [Dat.same, Bool.false_eq_true] at h
    rw [Dat.sameL_eq h]
theorem Dat.sameL_eq : ∀ {a b : List Dat}, Dat.sameL a b = true → a = b
  | [], b, h => by cases b <;> simp_all [Dat.sameL]
  | x :: xs, b, h => by
    cases b with
    | nil => simp [Dat.sameL] at h
    | cons y ys =>
      simp only [Dat.sameL, Bool.and_eq_true] at h
      rw [Dat.same_eq h.1, Dat.sameL_eq h.2]
end
mutual
theorem Dat.same_refl : ∀ (a : Dat), Dat.same a a = true
  | .non => by simp [Dat.same]
  | .bl _ => by simp [Dat.same]
  | .int _ => by simp [Dat.same]
  | .str _ => by simp [Dat.same]
  | .fn _ => by simp [Dat.same]
  | .scr _ => by simp [Dat.same]
  | .tup l => by simp only [Dat.same]; exact Dat.sameL_refl l
  | .lst l => by simp only [Dat.same]; exact Dat.sameL_refl l
theorem Dat.sameL_refl : ∀ (a : List Dat), Dat.sameL a a = true
  | [] => by simp [Dat.sameL]
  | x :: xs => by simp only [Dat.sameL, Bool.and_eq_true]; exact ⟨Dat.same_refl x, Dat.sameL_refl xs⟩
end
noncomputable instance : DecidableEq Dat := fun a b => decidable_of_iff (Dat.same a b = true) ⟨Dat.same_eq, fun h => h ▸ Dat.same_refl a⟩
theorem keyD_plain : ∀ {n : Nat} {d : Dat}, keyD n d = true → plainD n d = true := by
  intro n
  induction n with
  | zero => intro d h; cases d <;> simp_all [keyD, plainD, flatD]
  | succ n ih =>
    intro d h
    cases d <;> simp only [keyD, Bool.false_eq_true] at h <;> first | rfl | skip
    simp only [plainD, List.all_eq_true] at h ⊢
    exact fun x hx => ih (h x hx)
theorem eqD_key : ∀ {n : Nat} {d e : Dat}, keyD n d = true → keyD n e = true → eqD d e = decide (d = e) := by
  intro n
  induction n with
  | zero =>
    intro d e h h'
    cases d <;> simp only [keyD, Bool.false_eq_true] at h <;> cases e <;> simp only [keyD, Bool.false_eq_true] at h'
    rename_i a b
    by_cases z : a = b <;> simp [eqD, z]
  | succ n ih =>
    have hl : ∀ (l m : List Dat), l.all (keyD n) = true → m.all (keyD n) = true → eqL l m = decide (l = m) := by
      intro l
      induction l with
      | nil => intro m _ _; cases m <;> simp [eqL]
      | cons x l ihl =>
        intro m h h'
        cases m with
        | nil => simp [eqL]
        | cons y m =>
          simp only [List.all_cons, Bool.and_eq_true] at h h'
          rw [eqL, ih h.1 h'.1, ihl m h.2 h'.2]
          by_cases z1 : x = y <;> by_cases z2 : l = m <;> simp [z1, z2]
    intro d e h h'
    cases d <;> simp only [keyD, Bool.false_eq_true] at h <;> cases e <;> simp only [keyD, Bool.false_eq_true] at h'
    · rename_i a b
      by_cases z : a = b <;> simp [eqD, z]
    · simp [eqD]
    · simp [eqD]
    · rename_i l m
      rw [eqD, hl l m h h']
      by_cases z : l = m <;> simp [z]
mutual
noncomputable def drawD : Dat → Nat
  | .tup l => drawL l + 1
  | _ => 1
noncomputable def drawL : List Dat → Nat
  | [] => 0
  | d :: r => drawD d + drawL r
end
theorem hashL_append : ∀ (a b : List Dat), hashL (a ++ b) = hashL a ++ hashL b
  | [], _ => by simp [hashL]
  | d :: a, b => by simp only [List.cons_append, hashL]; rw [hashL_append a b]
theorem drawL_append : ∀ (a b : List Dat), drawL (a ++ b) = drawL a + drawL b
  | [], _ => by simp [drawL]
  | d :: a, b => by simp only [List.cons_append, drawL]; rw [drawL_append a b]; omega
section
variable {prog : Program} {w : World}
theorem hash_of : ∀ (n : Nat) {A : Around} {E : Value → Shared → Prop} {s : Shared} {d : Dat} {u : Value} {Q : Int → Shared → Prop}, keyD n d = true → AtH s.heap d u → A.units + n < cLine → Q (hashD d) { s with toks := s.toks + drawD d } →
    wpAny (model prog w) A (pyHash u) Q E s := by
  have onInt : ∀ {A : Around} {E : Value → Shared → Prop} {s : Shared} {i : Int} {u : Value} {Q : Int → Shared → Prop}, AtH s.heap (.int i) u → Q (hashD (.int i)) { s with toks := s.toks + drawD (.int i) } → wpAny (model prog w) A (pyHash u) Q E s := by
    intro A E s i u Q r h
    rw [AtH] at r
    obtain ⟨t, rfl⟩ := r
    rw [hashD, drawD] at h
    · exact wpAny_pyHash_int h
    · intro l; exact nofun
  intro n
  induction n with
  | zero =>
    intro A E s d u Q hk r hu h
    cases d <;> simp only [keyD, Bool.false_eq_true] at hk
    exact onInt r h
  | succ n ih =>
    intro A E s d u Q hk r hu h
    cases d <;> simp only [keyD, Bool.false_eq_true] at hk
    · exact onInt r h
    rename_i l
    rw [AtH] at r
    obtain ⟨a, its, rfl, ht, hi⟩ := r
    have hT : s.TypeIs (.ref a) "tuple" := let ⟨o, ho, hc, _⟩ := ht; ⟨o, ho, hc⟩
    obtain ⟨o, ho, _, m, hd⟩ := ht
    unfold pyHash
    first | unfold pyHashByItsType | skip
    first | refine wpAny_bind (wpAny_cRoomFor_or (.inr (by omega)) ?_) | skip
    refine wpAny_bind (wpAny_specialOf hT F.slot_tuple_hash.lookup ?_)
    show wpAny _ _ (if (some (Value.builtin "tuple.__hash__") == some Value.none) = true then _ else _) Q E s
    rw [if_neg (by rw [beq_builtin_none]; exact Bool.false_ne_true)]
    refine wpAny_bind (wpAny_specialOf hT F.slot_tuple_hash.lookup ?_)
    show wpAny _ _ (callSpecialIfBoundUnlessNone? (.ref a) "__hash__" _ >>= _) Q E s
    refine wpAny_bind (wpAny_callSpecialIfBoundUnlessNone?_slot hT F.slot_tuple_hash (wpAny_call_entry F.slot_tuple_hash hT F.entry_tuple_hash ?_ (F.args_tuple_hash_1 _)))
    show wpAny _ _ (Builtin.Tuple.tupleItemsOf (.ref a) >>= _) _ _ s
    refine wpAny_bind (wpAny_tupleItemsOf ho hd ?_)
    refine wpAny_bind ?_
    rw [← Array.forIn_toList]
    refine wpAny_forIn_list _
      (fun rest (b : Array Int) s' => ∃ done left, l = done ++ left ∧ AtL s.heap left rest ∧ b.toList = hashL done ∧ s' = { s with toks := s.toks + drawL done })
      _ ?_ ?_ _ _ ⟨[], l, rfl, hi, rfl, rfl⟩
    · rintro x rest b s' ⟨done, left, rfl, hl, hb, rfl⟩
      cases left with
      | nil => rw [AtL] at hl; cases hl
      | cons k ks' =>
        rw [AtL] at hl
        obtain ⟨u, r, e, h1, hl'⟩ := hl
        cases e
        have hkk : keyD n k = true := by
          have := List.all_eq_true.mp hk k (by simp)
          exact this
        refine wpAny_bind (ih hkk h1 (by show A.units + 1 + n < cLine; omega) ?_)
        have fin : ∃ done' left', done ++ k :: ks' = done' ++ left' ∧ AtL s.heap left' rest ∧ (b.push (hashD k)).toList = hashL done' ∧ ({ s with toks := s.toks + drawL done + drawD k } : Shared) = { s with toks := s.toks + drawL done' } :=
          ⟨done ++ [k], ks', by simp, hl', by simp [hb, hashL_append, hashL], by rw [drawL_append]; simp [drawL, Nat.add_assoc]⟩
        first
          | exact wpAny_pure fin
          | exact wpAny_bind (wpAny_pure (wpAny_pure fin))
    · rintro b s' ⟨done, left, rfl, hl, hb, rfl⟩
      cases left with
      | cons k ks' => rw [AtL] at hl; obtain ⟨_, _, e, _⟩ := hl; cases e
      | nil =>
        rw [List.append_nil, hashD, drawD] at h
        show wpAny _ _ (retInt (Builtin.Tuple.tupleHashOf b.toList)) _ _ _
        rw [hb]
        refine wpAny_ret_mkInt ?_
        show wpAny _ _ (if (decide (-(2 : Int) ^ 63 ≤ Builtin.Tuple.tupleHashOf (hashL done)) && decide (Builtin.Tuple.tupleHashOf (hashL done) < 2 ^ 63)) = true then _ else _) Q E _
        unfold reduceHash at h
        by_cases hr : (decide (-(2 : Int) ^ 63 ≤ Builtin.Tuple.tupleHashOf (hashL done)) && decide (Builtin.Tuple.tupleHashOf (hashL done) < 2 ^ 63)) = true
        · rw [if_pos hr]
          rw [if_pos hr] at h
          exact wpAny_pure (by simpa [Nat.add_assoc] using h)
        · rw [if_neg hr]
          rw [if_neg hr] at h
          exact wpAny_bind (wpAny_rule (wpAny_pure (by simpa [Nat.add_assoc] using h)))
theorem quiet_of : ∀ (n m : Nat) {A : Around} {E : Value → Shared → Prop} {s : Shared} {d : Dat} {u : Value} {Q : Bool → Shared → Prop}, n ≤ m → keyD n d = true → AtH s.heap d u → Q true s → wpAny (model prog w) A (eqIsQuiet m u) Q E s := by
  have onInt : ∀ {m : Nat} {A : Around} {E : Value → Shared → Prop} {s : Shared} {i : Int} {u : Value} {Q : Bool → Shared → Prop}, AtH s.heap (.int i) u → Q true s → wpAny (model prog w) A (eqIsQuiet m u) Q E s := by
    intro m A E s i u Q r h
    rw [AtH] at r
    obtain ⟨t, rfl⟩ := r
    rw [eqIsQuiet_byValue m rfl]
    exact wpAny_pure h
  intro n
  induction n with
  | zero =>
    intro m A E s d u Q _ hk r h
    cases d <;> simp only [keyD, Bool.false_eq_true] at hk
    exact onInt r h
  | succ n ih =>
    intro m A E s d u Q hm hk r h
    cases d <;> simp only [keyD, Bool.false_eq_true] at hk
    · exact onInt r h
    rename_i l
    obtain ⟨m', rfl⟩ : ∃ m', m = m' + 1 := ⟨m - 1, by omega⟩
    rw [AtH] at r
    obtain ⟨a, its, rfl, ht, hi⟩ := r
    have hT : s.TypeIs (.ref a) "tuple" := let ⟨o, ho, hc, _⟩ := ht; ⟨o, ho, hc⟩
    obtain ⟨o, ho, _, q, hd⟩ := ht
    unfold eqIsQuiet
    refine wpAny_bind (wpAny_specialOf hT F.slot_tuple_eq.lookup ?_)
    show wpAny _ _ (isInstance (.ref a) (.type "tuple") >>= _) _ _ s
    refine wpAny_bind (wpAny_isInstance hT isSubtype_tuple_tuple ?_)
    simp only [Bool.not_true, Bool.false_eq_true, if_false]
    refine wpAny_bind (wpAny_seqItems ho hd ?_)
    refine wpAny_bind ?_
    show wpAny _ _ (forIn its.toArray _ _) _ _ s
    rw [← Array.forIn_toList]
    refine wpAny_forIn_list _ (fun rest r s' => r.1 = none ∧ s' = s ∧ ∃ left, AtL s.heap left rest ∧ left.all (keyD n) = true) _ ?_ ?_ _ _ ⟨rfl, rfl, l, hi, hk⟩
    · rintro v rest r s' ⟨hr, rfl, left, hl, hall⟩
      cases left with
      | nil => rw [AtL] at hl; cases hl
      | cons k ks =>
        rw [AtL] at hl
        obtain ⟨u, r', e, h1, hl'⟩ := hl
        cases e
        simp only [List.all_cons, Bool.and_eq_true] at hall
        refine wpAny_bind (ih m' (by omega) hall.1 h1 ?_)
        simp only [Bool.not_true, Bool.false_eq_true, if_false]
        exact wpAny_pure ⟨rfl, rfl, ks, hl', hall.2⟩
    · rintro ⟨r1, r2⟩ s' ⟨hr, rfl, _⟩
      simp only at hr
      subst hr
      exact wpAny_pure h
noncomputable def KeyAt (h : Heap) (k : Dat) (a : Addr) : Prop := keyD 6 k = true ∧ AtH h k (.ref a)
mutual
theorem AtH.keeps {h h' : Heap} {d : Addr} {o : Obj} {es ep} (ho : h.get? d = some o) (hd : o.data = .dict es ep) (hs : Heap.SameBut d h h') : ∀ {k : Dat} {u : Value}, AtH h k u → AtH h' k u
  | .non, _, r => by rw [AtH] at r ⊢; exact r
  | .bl _, _, r => by rw [AtH] at r ⊢; exact r
  | .int _, _, r => by rw [AtH] at r ⊢; exact r
  | .str _, _, r => by rw [AtH] at r ⊢; exact r
  | .fn _, _, r => by rw [AtH] at r ⊢; exact r
  | .scr _, _, r => by rw [AtH] at r; exact r.elim
  | .tup l, _, r => by
    rw [AtH] at r ⊢
    obtain ⟨a, its, e, ⟨o', h1, h2, n, h3⟩, h4⟩ := r
    have hne : a ≠ d := by
      rintro rfl
      rw [ho] at h1; cases h1
      rw [hd] at h3; cases h3
    exact ⟨a, its, e, ⟨o', (hs.2 a hne).trans h1, h2, n, h3⟩, AtL.keeps ho hd hs h4⟩
  | .lst l, _, r => by
    rw [AtH] at r ⊢
    obtain ⟨a, its, e, ⟨o', h1, h2, n, h3⟩, h4⟩ := r
    have hne : a ≠ d := by
      rintro rfl
      rw [ho] at h1; cases h1
      rw [hd] at h3; cases h3
    exact ⟨a, its, e, ⟨o', (hs.2 a hne).trans h1, h2, n, h3⟩, AtL.keeps ho hd hs h4⟩
theorem AtL.keeps {h h' : Heap} {d : Addr} {o : Obj} {es ep} (ho : h.get? d = some o) (hd : o.data = .dict es ep) (hs : Heap.SameBut d h h') : ∀ {k : List Dat} {u : List Value}, AtL h k u → AtL h' k u
  | [], _, r => by rw [AtL] at r ⊢; exact r
  | _ :: _, _, r => by
    rw [AtL] at r ⊢
    obtain ⟨u, q, e, h1, h2⟩ := r
    exact ⟨u, q, e, AtH.keeps ho hd hs h1, AtL.keeps ho hd hs h2⟩
end
noncomputable def datKind (prog : Program) (w : World) : HeapKind prog w Dat where
  is := KeyAt
  hash := hashD
  draws := drawD
  room := fun A => A.units + 6 < cLine
  inj := fun hx hy => AtH.inj 6 (keyD_plain hx.1) (keyD_plain hy.1) hx.2 hy.2
  keeps := fun x ho hd hs => ⟨x.1, x.2.keeps ho hd hs⟩
  pyHash := fun hu hk h => hash_of 6 hk.1 hk.2 hu h
  eqBool := fun hu hx hy h => (eqAt_D 6 (keyD_plain hx.1) (keyD_plain hy.1) hx.2 hy.2 hu).1 _ _ _ _ (by rw [eqD_key hx.1 hy.1]; exact h)
  quiet := fun hk h => quiet_of 6 8 (by decide) hk.1 hk.2 h
end
end TF
namespace TF
open PySem PySem.Spec L2
open PyProof.Rows hiding St RelV
noncomputable def lookD (kvs : List (Dat × Dat)) (k : Dat) : Option Dat := (kvs.find? fun x => decide (x.1 = k)).map (·.2)
noncomputable def putD (kvs : List (Dat × Dat)) (k v : Dat) : List (Dat × Dat) := if (lookD kvs k).isSome then kvs.map (fun x => if x.1 = k then (x.1, v) else x) else kvs ++ [(k, v)]
theorem putD_new {kvs : List (Dat × Dat)} {k v : Dat} (h : lookD kvs k = none) : putD kvs k v = kvs ++ [(k, v)] := by simp [putD, h]
theorem DRep.length {K : PySem.W.Frag} {H : Hp} : ∀ {kvs : List (Dat × Dat)} {xs : List (Dat × Addr × Value)}, DRep K H kvs xs → xs.length = kvs.length
  | [], _, h => by rw [DRep] at h; subst h; rfl
  | (k, d) :: r, _, h => by
    rw [DRep] at h
    obtain ⟨a, u, xs', rfl, _, _, _, h6⟩ := h
    rw [List.length_cons, List.length_cons, DRep.length h6]
theorem DRep.keys {K : PySem.W.Frag} {H : Hp} : ∀ {kvs : List (Dat × Dat)} {xs : List (Dat × Addr × Value)}, DRep K H kvs xs → ∀ x ∈ xs, keyD 6 x.1 = true ∧ Rep K H x.1 (.ref x.2.1)
  | [], _, h, x, hx => by rw [DRep] at h; subst h; cases hx
  | (k, d) :: r, _, h, x, hx => by
    rw [DRep] at h
    obtain ⟨a, u, xs', rfl, h2, h3, _, h6⟩ := h
    rcases List.mem_cons.mp hx with e | hx
    · subst e; exact ⟨h2, h3⟩
    · exact DRep.keys h6 x hx
theorem DRep.look {K : PySem.W.Frag} {H : Hp} (k : Dat) : ∀ {kvs : List (Dat × Dat)} {xs : List (Dat × Addr × Value)}, DRep K H kvs xs → (lookD kvs k).isSome = (atKey xs k).isSome ∧ ∀ d, lookD kvs k = some d → ∃ p v, atKey xs k = some p ∧ RelV v p.2 ∧ Rep K H d v
  | [], _, h => by rw [DRep] at h; subst h; exact ⟨rfl, fun d e => by simp [lookD] at e⟩
  | (k', d') :: r, _, h => by
    rw [DRep] at h
    obtain ⟨a, u, xs', rfl, _, _, ⟨v, h4, h5⟩, h6⟩ := h
    by_cases e : k' = k
    · subst e
      refine ⟨by simp [lookD, atKey], fun d hd => ⟨(a, u), v, by simp [atKey], h4, ?_⟩⟩
      simp [lookD] at hd
      subst hd
      exact h5
    · have := DRep.look k h6
      have e1 : lookD ((k', d') :: r) k = lookD r k := by simp [lookD, e]
      have e2 : atKey ((k', a, u) :: xs') k = atKey xs' k := by simp [atKey, e]
      rw [e1, e2]
      exact this
theorem DRep.put {K : PySem.W.Frag} {H : Hp} {k d : Dat} {a : Addr} {u : Value} {v : V} (hk : keyD 6 k = true) (ra : Rep K H k (.ref a)) (ru : RelV v u) (rd : Rep K H d v) {kvs : List (Dat × Dat)} {xs : List (Dat × Addr × Value)} (h : DRep K H kvs xs) :
    DRep K H (putD kvs k d) (storedH xs k a u) := by
  have look := (DRep.look k h).1
  have app : ∀ {kvs : List (Dat × Dat)} {xs : List (Dat × Addr × Value)}, DRep K H kvs xs → DRep K H (kvs ++ [(k, d)]) (xs ++ [(k, a, u)]) := by
    intro kvs
    induction kvs with
    | nil => intro xs h; rw [DRep] at h; subst h; exact ⟨a, u, [], rfl, hk, ra, ⟨v, ru, rd⟩, rfl⟩
    | cons p r ih =>
      intro xs h
      obtain ⟨k', d'⟩ := p
      rw [DRep] at h
      obtain ⟨a', u', xs', rfl, h2, h3, h4, h6⟩ := h
      exact ⟨a', u', _, rfl, h2, h3, h4, ih h6⟩
  have map : ∀ {kvs : List (Dat × Dat)} {xs : List (Dat × Addr × Value)}, DRep K H kvs xs → DRep K H (kvs.map fun x => if x.1 = k then (x.1, d) else x) (xs.map (putAt k u)) := by
    intro kvs
    induction kvs with
    | nil => intro xs h; rw [DRep] at h; subst h; rfl
    | cons p r ih =>
      intro xs h
      obtain ⟨k', d'⟩ := p
      rw [DRep] at h
      obtain ⟨a', u', xs', rfl, h2, h3, h4, h6⟩ := h
      rw [List.map_cons, List.map_cons]
      by_cases e : k' = k
      · simp only [e, if_true, putAt]
        subst e
        exact ⟨a', u, _, rfl, h2, h3, ⟨v, ru, rd⟩, ih h6⟩
      · simp only [e, if_false, putAt]
        exact ⟨a', u', _, rfl, h2, h3, h4, ih h6⟩
  unfold putD storedH
  rw [look]
  by_cases e : (atKey xs k).isSome = true
  · rw [if_pos e, if_pos e]; exact map h
  · rw [if_neg e, if_neg e]; exact app h
section
variable {X : Cx} {pins : List (Addr × Obj)} {σ : St} {H : Hp} {s : Shared} {p : Addr} {G : Gs} {kvs : List (Dat × Dat)} {xs : List (Dat × Addr × Value)}
theorem Inv.big (I : Inv X pins σ H s) : sysModules < s.heap.objs.size := by
  have h : mainGlobals < s.heap.objs.size := (I.mod.glob.keeps I.bk).lt
  exact Nat.lt_trans (by decide) h
theorem key_at (I : Inv X pins σ H s) {k : Dat} {a : Addr} (hk : keyD 6 k = true) (r : Rep X.K H k (.ref a)) : KeyAt s.heap k a := ⟨hk, r.at I (keyD_plain hk) rfl⟩
theorem dict_of (I : Inv X pins σ H s) (h : H p = some (dctO p xs)) (r : DRep X.K H kvs xs) : (p == sysModules) = false ∧ xs.length ≤ sizeLine ∧ s.heap.DictOfH (datKind X.prog X.w) p xs := by
  obtain ⟨⟨h1, h2, h3, o, es, ep, h4, h5, h6, h7⟩, _, _⟩ := (show ObjOk X.prog X.w H s.heap p (.ext (DictAt p xs)) from I.hok p _ h)
  exact ⟨h1, h2, o, es, ep, h4, h5, h6, h7, fun x hx => key_at I (r.keys x hx).1 (r.keys x hx).2, h3⟩
theorem dct_ok {P : Program} {w : World} {H : Hp} {h : Heap} (d : DictAt p xs h) : ObjOk P w H h p (dctO p xs) := by
  obtain ⟨h1, h2, h3, o, es, ep, h4, h5⟩ := id d
  exact ⟨d, ⟨o, h4⟩, fun k1 k2 ⟨g1, g2, g3, o', es', ep', g4, g5⟩ hk => ⟨g1, g2, g3, o', es', ep', hk _ g4, g5⟩⟩
theorem own_dct {xs' : List (Dat × Addr × Value)} {kvs' : List (Dat × Dat)} (o : GOk X.K H G) (hG : G p = some (.dct kvs)) (r : DRep X.K (hid H G) kvs' xs') : Ext H G (upd H p (dctO p xs')) (put G p (.dct kvs')) ∧ GOk X.K (upd H p (dctO p xs')) (put G p (.dct kvs')) := by
  have E : Ext H G (upd H p (dctO p xs')) (put G p (.dct kvs')) := ⟨fun b u e h => by
    have : b ≠ p := by rintro rfl; rw [hG] at h; cases h
    rw [upd_ne this]; exact e, fun b h => by
    by_cases hb : b = p
    · subst hb; left; rw [hG]; exact nofun
    · rw [put_ne hb] at h; exact .inl h⟩
  refine ⟨E, fun b u q => ?_⟩
  by_cases hb : b = p
  · subst hb
    rw [put_same] at q
    cases q
    exact ⟨xs', upd_same, r.same E.hid⟩
  · rw [put_ne hb] at q
    exact (o b u q).ext E.hid (upd_ne hb)
theorem own_dctN (o : GOk X.K H G) (hp : H p = none) : Ext H G (upd H p (dctO p [])) (put G p (.dct [])) ∧ GOk X.K (upd H p (dctO p [])) (put G p (.dct [])) := by
  have E : Ext H G (upd H p (dctO p [])) (put G p (.dct [])) := ⟨fun b u e _ => by rw [upd_ne (ne_of_none e hp)]; exact e, fun b h => by
    by_cases hb : b = p
    · subst hb; exact .inr hp
    · rw [put_ne hb] at h; exact .inl h⟩
  refine ⟨E, fun b u q => ?_⟩
  by_cases hb : b = p
  · subst hb
    rw [put_same] at q
    cases q
    exact ⟨[], upd_same, rfl⟩
  · rw [put_ne hb] at q
    exact (o b u q).ext E.hid (upd_ne hb)
end
section
variable {X : Cx} {ρ : Rho} {G : Gs} {e a b c : Expr} {d k : Dat} {p : Addr} {kvs : List (Dat × Dat)} {pos : Pos}
theorem pxc_dnotin (hu : X.A.units + 9 < cLine) (ha : PX X ρ G a k) (hb : PX X ρ G b (.fn p)) (hG : G p = some (.dct kvs)) (hk : keyD 6 k = true) (hr : ∃ l, k = .tup l) : PXC X ρ G .NotIn a b (.bl (!(lookD kvs k).isSome)) := by
  intro pins s σ H I S
  refine thn (ha pins s σ H I S) fun v s1 ⟨x, H1, I1, rx, _, _, e1, o1, r1, q1, q1'⟩ => ?_
  subst q1; subst q1'
  refine thn (hb pins s1 σ H1 I1 (S.ext e1 o1)) fun u s2 ⟨y, H2, I2, ry, _, _, e2, o2, r2, q2, q2'⟩ => ?_
  subst q2; subst q2'
  cases (show y = V.ref p from r2)
  cases ry
  obtain ⟨l, rfl⟩ := hr
  have r1' := (r1.same e2.hid).same hid_le
  have hx : ∃ t, x = V.ref t := by rw [Rep] at r1'; obtain ⟨t, _, e, _⟩ := r1'; exact ⟨t, e⟩
  obtain ⟨t, rfl⟩ := hx
  cases rx
  obtain ⟨xs, h3, r3⟩ := o2 p _ hG
  obtain ⟨z1, z2, dd⟩ := dict_of I2 h3 (r3.same hid_le)
  refine wpAny_notIn_heap (knd := datKind X.prog X.w) (show X.A.units + 1 + 6 < cLine by omega) (key_at I2 hk r1') z1 dd ⟨.bl _, H2, I2.tok _, rfl, .bl _, _, e1.trans e2, o2, ?_, rfl, rfl⟩
  rw [← (DRep.look _ r3).1]
  rfl
end
end TF
namespace TF
open PySem PySem.Spec L2
open PyProof.Rows hiding St RelV
section
variable {X : Cx}
noncomputable def rSlA (K : PySem.W.Frag) : V → Option Int → Option Int → Hp → VK → Prop := fun x lo hi H Q => ∃ a xs, x = .ref a ∧ SqT K H a xs ∧ (cutV xs lo hi = xs → Q (.ref a) H) ∧ ∀ p, H p = none → Q (.ref p) (upd H p (.tup (cutV xs lo hi)))
theorem sl_tupA : SlR X (rSlA X.K) := by
  intro pins s σ H x v vl vu lo hi sl Q I rx hs pl pu h
  obtain ⟨a, xs, rfl, hx, q1, q2⟩ := h
  by_cases hw : HT.sIx xs.length 0 lo = 0 ∧ HT.sIx xs.length xs.length hi = xs.length
  · cases rx
    obtain ⟨its, r, ht, hz⟩ := I.tuple hx
    have hlen : its.toArray.size = xs.length := by rw [List.size_toArray]; exact r.length.symm
    have cut : cutV xs lo hi = xs := by unfold cutV; rw [hw.1, hw.2]; simp
    refine ⟨"tuple", _, PyProof.Rows.slot_tuple_getitem.lookup, ht.typeIs, ?_⟩
    obtain ⟨os, hos, hcs, hds⟩ := id hs
    have hTs : s.TypeIs (.ref sl) "slice" := ⟨os, hos, hcs⟩
    unfold getItem
    try with_reducible refine wpAny_holding ?_
    first | refine wpAny_bind (wpAny_pure ?_) | skip
    refine wpAny_bind (wpAny_sequenceKey ht.typeIs (by decide) ?_)
    refine wpAny_bind (wpAny_callSpecial?_slot (name := Str.ofString "__getitem__") ht.typeIs PyProof.Rows.slot_tuple_getitem
      (wpAny_call_entry PyProof.Rows.slot_tuple_getitem ht.typeIs entry_tuple_getitem ?_ (args_tuple_getitem _ _)))
    show wpAny _ _ (Builtin.Tuple.tupleItemsOf (.ref a) >>= _) _ _ s
    refine wpAny_bind (tupleItemsOf_ ht ?_)
    refine wpAny_bind (wpAny_typeOf hTs ?_)
    rw [if_pos (by decide)]
    refine wpAny_bind (HT.sliceApplied_gen hs pl pu ?_)
    have hyes : (((HT.sIx its.toArray.size 0 lo : Nat) : Int) == 0 && (1 : Int) == 1 && (HT.sIx its.toArray.size its.toArray.size hi - HT.sIx its.toArray.size 0 lo) == its.toArray.size) = true := by
      rw [hlen, hw.1, hw.2]
      simp
    show wpAny _ _ (if (((HT.sIx its.toArray.size 0 lo : Nat) : Int) == 0 && (1 : Int) == 1 && (HT.sIx its.toArray.size its.toArray.size hi - HT.sIx its.toArray.size 0 lo) == its.toArray.size) = true then _ else _) _ _ s
    rw [if_pos hyes]
    refine wpAny_bind ?_
    unfold Builtin.Tuple.tupleIsExact
    refine wpAny_bind (wpAny_typeOf ht.typeIs (wpAny_pure ?_))
    rw [if_pos (by decide)]
    exact wpAny_bind (wpAny_rule (wpAny_pure ⟨_, rfl, wpAny_pure ⟨.ref a, H, I, rfl, q1 cut⟩⟩))
  · exact sl_tup pins s σ H (.ref a) v vl vu lo hi sl Q I rx hs pl pu ⟨a, xs, rfl, hx, hw, q2⟩
end
end TF
namespace TF
open PySem PySem.Spec L2
open PyProof.Rows hiding St RelV
theorem putD_length (kvs : List (Dat × Dat)) (k v : Dat) : (putD kvs k v).length ≤ kvs.length + 1 := by
  unfold putD
  split
  · rw [List.length_map]; omega
  · rw [List.length_append, List.length_singleton]; exact Nat.le_refl _
section
variable {X : Cx} {ρ : Rho} {G : Gs} {e a b c : Expr} {es : List Expr} {d d' d1 d2 k : Dat} {ds l m : List Dat} {pos : Pos} {i j : Int} {p : Addr} {kvs : List (Dat × Dat)} {D : DE} {rest : List Stmt}
noncomputable def PXo (X : Cx) (ρ : Rho) (G : Gs) (e : Option Expr) (o : Option Int) : Prop := match e, o with
  | none, none => True
  | some e, some i => PX X ρ G e (.int i)
  | _, _ => False
noncomputable def cutD (l : List Dat) (lo hi : Option Int) : List Dat := (l.drop (HT.sIx l.length 0 lo)).take (HT.sIx l.length l.length hi - HT.sIx l.length 0 lo)
noncomputable def tWo (X : Cx) (e : Option Expr) : TO := fun σ H Q' => ∃ ρ G o, PXo X ρ G e o ∧ Stt X H σ ρ G ∧ ∀ H', Ext H G H' G → GOk X.K H' G → Q' o H'
theorem po_wo {e : Option Expr} : PO X e (tWo X e) := by
  intro pins s σ H Q I ⟨ρ, G, o, h, S, k⟩
  cases e with
  | none =>
    cases o with
    | none => exact po_none pins s σ H Q I (k H Ext.refl S.own)
    | some i => exact h.elim
  | some e =>
    cases o with
    | none => exact h.elim
    | some i =>
      refine po_some (pe_we (X := X) (e := e)) pins s σ H Q I ⟨ρ, G, _, h, S, fun v H' ⟨d, G', e', o', r', q1, q2⟩ => ?_⟩
      subst q1; subst q2
      exact ⟨i, r', k H' e' o'⟩
theorem cut_rep {K : PySem.W.Frag} {H : Hp} {vs : List V} {lo hi : Option Int} (r : RepL K H l vs) : RepL K H (cutD l lo hi) (cutV vs lo hi) := by
  unfold cutD cutV
  rw [r.length]
  exact (r.drop _).take _
theorem px_sliceT {lo hi : Option Expr} {p2 : Pos} {ol oh : Option Int} (ha : PX X ρ G a (.tup l)) (hl : PXo X ρ G lo ol) (hh : PXo X ρ G hi oh) : PX X ρ G (.Subscript a (.Slice lo hi none p2) pos) (.tup (cutD l ol oh)) :=
  we_pe (pe_slice sl_tupA pe_we po_wo po_wo) fun σ H S => ⟨ρ, G, _, ha, S, fun x H1 ⟨_, _, e1, o1, r1, q1, q1'⟩ => by
    subst q1; subst q1'
    refine ⟨ρ, _, ol, hl, S.ext e1 o1, fun H2 e2 o2 => ⟨ρ, _, oh, hh, S.ext (e1.trans e2) o2, fun H3 e3 o3 => ?_⟩⟩
    have r3 := r1.same (e2.trans e3).hid
    have r3' := r3
    rw [Rep] at r3
    obtain ⟨p, vs, e4, h4, r4⟩ := r3
    refine ⟨p, vs, e4, sqT_same hid_le h4, fun z => ?_, fun t ht => Po.trans (e1.trans (e2.trans e3)) (new_tup o3 ht (cut_rep r4))⟩
    refine Po.trans (e1.trans (e2.trans e3)) (po1' o3 ?_)
    rw [Rep]
    exact ⟨p, vs, rfl, h4, by have := cut_rep (lo := ol) (hi := oh) r4; rw [z] at this; exact this⟩⟩
theorem wa_nil {Q : List Dat → Gs → Prop} (h : Q [] G) : WA X ρ G [] Q := wa_pa pa_nil fun σ H S => ⟨[], G, Ext.refl, S.own, RepL.nil, h⟩
theorem wa_cons {Q : List Dat → Gs → Prop} (h : WE X ρ G e fun d G1 => WA X ρ G1 es fun ds G2 => Q (d :: ds) G2) (hs : starEach (e :: es) X.env = (false, eval e X.env) :: starEach es X.env := by rfl) : WA X ρ G (e :: es) Q :=
  wa_pa (pa_cons pe_we pa_wa hs) fun σ H S => ⟨ρ, G, _, h, S, fun x H1 ⟨d, G1, e1, o1, r1, w1⟩ => ⟨ρ, G1, _, w1, S.ext e1 o1, fun xs H2 ⟨ds, G2, e2, o2, r2, q2⟩ => ⟨d :: ds, G2, e1.trans e2, o2, RepL.cons (r1.same e2.hid) r2, q2⟩⟩⟩
theorem we_dfA {S : SpD} {kk : Nat} {ps : List Str} {x : Str} {pp : Pos} {Q : Dat → Gs → Prop} (F : Df X.prog X.w X.K X.mg X.base x ps kk S) (hr : Room kk X.A) (ha : WA X ρ G (e :: es) fun ds G' => S ds G' Q) (hg : Gl X x := by rfl)
    (hdb : (x == ("__debug__" : Str)) = false := by decide) (he : starEach (e :: es) X.env = (false, eval e X.env) :: starEach es X.env := by rfl) (hpl : (backTo pos (starEach es X.env)).any (·.1) = false := by rfl) : WE X ρ G (.Call (.Name x pp) (e :: es) [] pos) Q := by
  obtain ⟨f, fd, F, hm, hk, hb⟩ := F.ex
  exact we_pe (pe_call F hr hg hm hk hb .nil pass0 pa_wa hdb he hpl) fun σ H St => ⟨ρ, G, _, ha, St, fun vs H1 ⟨ds, G1, e1, o1, r1, q1⟩ => ⟨ds, G1, Q, o1, by rw [List.append_nil]; exact r1, q1, fun v H' d G' e' o' r' q' => ⟨d, G', e1.trans e', o', r', q'⟩⟩⟩
theorem we_dnew {Q : Dat → Gs → Prop} (h : ∀ p, G p = none → Q (.fn p) (put G p (.dct []))) : WE X ρ G (.Dict [] [] pos) Q := fun pins s σ H I S => by
  refine wpAny_Dict_empty ⟨.ref s.heap.objs.size, _, I.laid (a := s.heap.objs.size) (o := dctO s.heap.objs.size []) (t' := s.toks) (fun _ _ q => Heap.get?_push_of_some _ q) (Nat.le_refl _) ?_, rfl, ?_⟩
  · refine dct_ok ⟨beq_eq_false_iff_ne.mpr (Ne.symm (Nat.ne_of_lt (Inv.big I))), Nat.zero_le _, List.nodup_nil, _, #[], 0, Heap.get?_push_size _ rfl, ⟨rfl, rfl, rfl⟩, rfl, rfl⟩
  · have hp : H s.heap.objs.size = none := I.hok.fresh (Nat.le_refl _)
    obtain ⟨E, O⟩ := own_dctN (X := X) S.own hp
    exact ⟨.fn s.heap.objs.size, _, E, O, rfl, h _ (S.own.free hp)⟩
theorem px_dget (hu : X.A.units + 9 < cLine) (ha : PX X ρ G a (.fn p)) (hb : PX X ρ G b k) (hG : G p = some (.dct kvs)) (hk : keyD 6 k = true) (hr : ∃ l, k = .tup l) (hl : lookD kvs k = some d) (hs : PlainIx b := by intro _ _; rfl) : PX X ρ G (.Subscript a b pos) d := by
  intro pins s σ H I S
  refine Subscript_ (thn (ha pins s σ H I S) fun u s1 ⟨x, H1, I1, rx, _, _, e1, o1, r1, q1, q1'⟩ => ?_)
  subst q1; subst q1'
  refine thn (hb pins s1 σ H1 I1 (S.ext e1 o1)) fun iv s2 ⟨y, H2, I2, ry, _, _, e2, o2, r2, q2, q2'⟩ => ?_
  subst q2; subst q2'
  cases (show x = V.ref p from r1)
  cases rx
  obtain ⟨l, rfl⟩ := hr
  have r2' := r2.same hid_le
  have hx : ∃ t, y = V.ref t := by rw [Rep] at r2'; obtain ⟨t, _, e, _⟩ := r2'; exact ⟨t, e⟩
  obtain ⟨t, rfl⟩ := hx
  cases ry
  obtain ⟨xs, h3, r3⟩ := o2 p _ hG
  obtain ⟨z1, z2, dd⟩ := dict_of I2 h3 (r3.same hid_le)
  obtain ⟨q, v, hq, rv, rd⟩ := (DRep.look _ r3).2 d hl
  refine tail_any (ops := [.ref p, .ref t]) dd.typeIs PySem.F.slot_dict_getitem.lookup ?_ (hs _ _)
  exact wpAny_getItem_heap (knd := datKind X.prog X.w) (show X.A.units + 1 + 6 < cLine by omega) (key_at I2 hk r2') dd hq ⟨v, H2, I2.tok _, rv, d, _, e1.trans e2, o2, rd, rfl, rfl⟩
theorem wss_dput {pos' : Pos} (hu : X.A.units + 9 < cLine) (hv : PX X ρ G e d) (ha : PX X ρ G a (.fn p)) (hb : PX X ρ G b k) (hG : G p = some (.dct kvs)) (hk : keyD 6 k = true) (hr : ∃ l, k = .tup l) (hz : kvs.length < sizeLine)
    (q : WSs X ρ (put G p (.dct (putD kvs k d))) rest D) (hs : swapsWith e (some (.Subscript a b pos')) pos.line X.env = pure false := by rfl) : WSs X ρ G (.Assign [.Subscript a b pos'] e pos :: rest) D := wss_cons fun pins s σ H I S => by
  refine wpAny_Assign_Subscript (thn (hv pins s σ H I S) fun r s0 ⟨vv, H0, I0, rvv, _, _, e0, o0, r0, q0, q0'⟩ => ?_) hs
  subst q0; subst q0'
  refine thn (ha pins s0 σ H0 I0 (S.ext e0 o0)) fun u s1 ⟨x, H1, I1, rx, _, _, e1, o1, r1, q1, q1'⟩ => ?_
  subst q1; subst q1'
  refine thn (hb pins s1 σ H1 I1 (S.ext (e0.trans e1) o1)) fun iv s2 ⟨y, H2, I2, ry, _, _, e2, o2, r2, q2, q2'⟩ => ?_
  subst q2; subst q2'
  cases (show x = V.ref p from r1)
  cases rx
  obtain ⟨l, rfl⟩ := hr
  have r2' := r2.same hid_le
  have hx : ∃ t, y = V.ref t := by rw [Rep] at r2'; obtain ⟨t, _, e, _⟩ := r2'; exact ⟨t, e⟩
  obtain ⟨t, rfl⟩ := hx
  cases ry
  obtain ⟨xs, h3, r3⟩ := o2 p _ hG
  obtain ⟨z1, z2, dd⟩ := dict_of I2 h3 (r3.same hid_le)
  have rn := DRep.put hk r2 rvv (r0.same (e1.trans e2).hid) r3
  refine wpAny_setItem_heap (hsz := z2) (knd := datKind X.prog X.w) (show X.A.units + 1 + 6 < cLine by omega) (key_at I2 hk r2') dd fun h' dd' hsb => ?_
  obtain ⟨E, O⟩ := own_dct (X := X) o2 hG rn
  obtain ⟨o', es', ep', g1, g2, g3, g4, _, g5⟩ := dd'
  refine ⟨σ, _, I2.write (x := p) (e := p) (t' := s2.toks + drawD (.tup l)) (by rw [h3]; exact True.intro) (.inl rfl) (fun b o hb z => (hsb.2 b hb).trans z) ⟨o', g1⟩ (dct_ok ⟨z1, ?_, g5, o', es', ep', g1, g2, g3, g4⟩), ρ, _, (e0.trans (e1.trans e2)).trans E, S.ext ((e0.trans (e1.trans e2)).trans E) O, q⟩
  exact Nat.le_trans (Nat.le_of_eq rn.length) (Nat.le_trans (putD_length _ _ _) hz)
end
end TF
set_option maxHeartbeats 4000000
namespace TF
open PySem PySem.Spec L2
open PyProof.Rows hiding St RelV
noncomputable abbrev Sq := Int × Int
noncomputable def sq (p : Sq) : Dat := .tup [.int p.1, .int p.2]
noncomputable def fl (l : List Sq) : Dat := .tup (l.map sq)
noncomputable def stone (p : Sq × Sq) : Dat := .tup [sq p.1, sq p.2]
theorem eqD_sq (p q : Sq) : eqD (sq p) (sq q) = decide (p = q) := by
  obtain ⟨a, b⟩ := p
  obtain ⟨c, d⟩ := q
  simp only [sq, eqD, eqL, Bool.and_true]
  rw [Bool.eq_iff_iff]
  simp [Prod.ext_iff]
theorem any_sq (l : List Sq) (p : Sq) : ((l.map sq).any fun e => eqD e (sq p)) = l.contains p := by
  rw [List.any_map]
  have : (fun e => eqD e (sq p)) ∘ sq = fun q => q == p := by
    funext q
    simp only [Function.comp, eqD_sq]
    rw [Bool.eq_iff_iff]; simp
  rw [this]
  induction l with
  | nil => rfl
  | cons q l ih =>
    rw [List.any_cons, List.contains_cons, ih]
    congr 1
    rw [Bool.eq_iff_iff, beq_iff_eq, beq_iff_eq]
    exact eq_comm
theorem plain_sq (p : Sq) (n : Nat) : plainD (n + 1) (sq p) = true := by
  simp only [sq, plainD, List.all_cons, List.all_nil, Bool.and_true, Bool.and_eq_true]
  exact ⟨plainD_flat rfl n, plainD_flat rfl n⟩
theorem plain_sqs (l : List Sq) (n : Nat) : (l.map sq).all (plainD (n + 1)) = true := by
  rw [List.all_eq_true]
  intro d hd
  obtain ⟨p, _, rfl⟩ := List.mem_map.mp hd
  exact plain_sq p n
theorem sq_inj {p q : Sq} (h : sq p = sq q) : p = q := by
  obtain ⟨a, b⟩ := p
  obtain ⟨c, d⟩ := q
  simp only [sq, Dat.tup.injEq, List.cons.injEq, Dat.int.injEq, and_true] at h
  rw [h.1, h.2]
theorem map_sq_inj : ∀ {l m : List Sq}, l.map sq = m.map sq → l = m
  | [], [], _ => rfl
  | [], _ :: _, h => by simp at h
  | _ :: _, [], h => by simp at h
  | p :: l, q :: m, h => by
    simp only [List.map_cons, List.cons.injEq] at h
    rw [sq_inj h.1, map_sq_inj h.2]
theorem fl_inj {l m : List Sq} (h : fl l = fl m) : l = m := by
  simp only [fl, Dat.tup.injEq] at h
  exact map_sq_inj h
theorem atI_map {α β : Type} (f : α → β) {l : List α} {i : Int} {x : α} (h : atI l i = some x) : atI (l.map f) i = some (f x) := by
  unfold atI at h ⊢
  rw [List.length_map]
  cases q : ixN l.length i with
  | none => rw [q] at h; cases h
  | some j => rw [q] at h; show (l.map f)[j]? = _; rw [List.getElem?_map, show l[j]? = some x from h]; rfl
noncomputable def cellN (ns : List Int) (k : Nat) : Int := ns.getD k 0
end TF
namespace TF
open PySem PySem.Spec L2
open PyProof.Rows hiding St RelV
section
variable {X : Cx} {ρ : Rho} {G : Gs} {e a b c : Expr} {es : List Expr} {d : Dat} {pos : Pos} {D : DE} {rest x y : List Stmt} {p : Bool}
theorem wss_ifM (M : Rho → Gs → Prop) (hc : PXT X ρ G c p) (ht : p = true → WSs X ρ G x { D with nx := M }) (hf : p = false → WSs X ρ G y { D with nx := M }) (hr : ∀ ρ' G', M ρ' G' → WSs X ρ' G' rest D) : WSs X ρ G (.If c x y pos :: rest) D :=
  wss_if hc (fun h => (ht h).mono (fun ρ' G' q => hr ρ' G' q) (fun _ _ q => q) (fun _ _ q => q) fun _ _ q => q) (fun h => (hf h).mono (fun ρ' G' q => hr ρ' G' q) (fun _ _ q => q) (fun _ _ q => q) fun _ _ q => q)
theorem we_rel {Q : Dat → Gs → Prop} (h : WE X ρ G e fun d G' => ∃ q, Q d (rel G' q)) : WE X ρ G e Q := fun pins s σ H I S =>
  thn (h pins s σ H I S) fun _ _ z => EP.mono z fun v H' ⟨d, G', e', o', r', q, hq⟩ => by
    have E : Ext H' G' H' (rel G' q) := ⟨fun b u z _ => z, fun b hb => by
      by_cases hq : b = q
      · subst hq; rw [rel_same] at hb; exact absurd rfl hb
      · rw [rel_ne hq] at hb; exact .inl hb⟩
    refine ⟨d, rel G' q, e'.trans E, fun b u z => ?_, r'.same E.hid, hq⟩
    by_cases hbq : b = q
    · subst hbq; rw [rel_same] at z; cases z
    · rw [rel_ne hbq] at z
      exact (o' b u z).ext E.hid rfl
theorem bName_le {ρ : Rho} {i : Nat} (h : ρ[i]? = some none) : ∀ d ρ', bName i d ρ = some ρ' → ρ'.length = ρ.length ∧ ∀ (j : Nat) e, ρ[j]? = some (some e) → ρ'[j]? = some (some e) := by
  intro d ρ' e
  cases e
  refine ⟨List.length_set, fun j e' h' => ?_⟩
  by_cases z : i = j
  · subst z; rw [h] at h'; cases h'
  · rw [List.getElem?_set_ne z]; exact h'
theorem bPair_le {ρ : Rho} {i j : Nat} (h : ρ[i]? = some none) (h' : ρ[j]? = some none) : ∀ d ρ', bPair i j d ρ = some ρ' → ρ'.length = ρ.length ∧ ∀ (k : Nat) e, ρ[k]? = some (some e) → ρ'[k]? = some (some e) := by
  intro d ρ' e
  cases d <;> simp only [bPair, reduceCtorEq] at e
  rename_i l
  match l, e with
  | [a, b], e =>
    simp only [Option.some.injEq] at e
    subst e
    refine ⟨by rw [List.length_set, List.length_set], fun k e' hk => ?_⟩
    by_cases z : j = k
    · subst z; rw [h'] at hk; cases hk
    · rw [List.getElem?_set_ne z]
      by_cases z2 : i = k
      · subst z2; rw [h] at hk; cases hk
      · rw [List.getElem?_set_ne z2]; exact hk
  | [], e => simp at e
  | [_], e => simp at e
  | _ :: _ :: _ :: _, e => simp at e
end
end TF
namespace TF
open PySem PySem.Spec L2
open PyProof.Rows hiding St RelV
section
variable {X : Cx} {ρ : Rho} {G : Gs} {e a b c : Expr} {es : List Expr} {d d' d1 d2 d3 k : Dat} {ds l m : List Dat} {pos : Pos} {i j z : Int} {p : Addr} {kvs : List (Dat × Dat)} {D : DE} {rest body : List Stmt}
theorem px_call2 {f : Str} {id : String} {r : List V → Hp → VK → Prop} {pp : Pos} (hc : CallR X (.builtin id) r) (hg : Gl X f) (hm : X.mg f = none) (hv : bootBuiltins f = some (.builtin id)) (ha : PX X ρ G a d1) (hb : PX X ρ G b d2)
    (hr : ∀ (H : Hp) (x y : V) (Q : VK), GOk X.K H G → Rep X.K (hid H G) d1 x → Rep X.K (hid H G) d2 y → (∀ v H', Po X H G (fun d' G' => d' = d ∧ G' = G) v H' → Q v H') → r [x, y] H Q)
    (hn : f ≠ "__name__" := by decide) (hdb : (f == ("__debug__" : Str)) = false := by decide) (he : starEach [a, b] X.env = (false, eval a X.env) :: starEach [b] X.env := by rfl) (he2 : starEach [b] X.env = (false, eval b X.env) :: starEach [] X.env := by rfl)
    (hpl : (backTo pos (starEach [b] X.env)).any (·.1) = false := by rfl) : PX X ρ G (.Call (.Name f pp) [a, b] [] pos) d :=
  we_pe (pe_callB hc hg hm hv (pa_cons pe_we (pa_cons pe_we pa_nil he2) he) hn hdb he hpl) fun σ H S => ⟨ρ, G, _, ha, S, fun x H1 ⟨_, _, e1, o1, r1, q1, q1'⟩ => by
    subst q1; subst q1'
    refine ⟨ρ, _, _, hb, S.ext e1 o1, fun y H2 ⟨_, _, e2, o2, r2, q2, q2'⟩ => ?_⟩
    subst q2; subst q2'
    exact hr H2 x y _ o2 (r1.same e2.hid) r2 fun v H' z => Po.trans (e1.trans e2) z⟩
theorem px_max2 {pp : Pos} (hc : X.calm = true) (hm : X.mg "max" = none) (ha : PX X ρ G a (.int i)) (hb : PX X ρ G b (.int j)) (hg : Gl X "max" := by rfl) (he : starEach [a, b] X.env = (false, eval a X.env) :: starEach [b] X.env := by rfl) (he2 : starEach [b] X.env = (false, eval b X.env) :: starEach [] X.env := by rfl)
    (hpl : (backTo pos (starEach [b] X.env)).any (·.1) = false := by rfl) : PX X ρ G (.Call (.Name "max" pp) [a, b] [] pos) (.int (max i j)) :=
  px_call2 (call_max2 hc) hg hm (by decide +kernel) ha hb (fun H x y Q o rx ry k => by
    rw [Rep] at rx ry
    subst rx; subst ry
    refine ⟨i, j, rfl, k _ _ (po1' o ?_)⟩
    rw [Rep]
    congr 1
    split <;> omega) (he := he) (he2 := he2) (hpl := hpl)
theorem px_min2 {pp : Pos} (hc : X.calm = true) (hm : X.mg "min" = none) (ha : PX X ρ G a (.int i)) (hb : PX X ρ G b (.int j)) (hg : Gl X "min" := by rfl) (he : starEach [a, b] X.env = (false, eval a X.env) :: starEach [b] X.env := by rfl) (he2 : starEach [b] X.env = (false, eval b X.env) :: starEach [] X.env := by rfl)
    (hpl : (backTo pos (starEach [b] X.env)).any (·.1) = false := by rfl) : PX X ρ G (.Call (.Name "min" pp) [a, b] [] pos) (.int (min i j)) :=
  px_call2 (call_min2 hc) hg hm (by decide +kernel) ha hb (fun H x y Q o rx ry k => by
    rw [Rep] at rx ry
    subst rx; subst ry
    refine ⟨i, j, rfl, k _ _ (po1' o ?_)⟩
    rw [Rep]
    congr 1
    split <;> omega) (he := he) (he2 := he2) (hpl := hpl)
theorem call_maxL (hc : X.calm = true) : CallR X (.builtin "max") (fun xs H Q => ∃ (p : Addr) (ns : List Int), xs = [.ref p] ∧ SqL X.K H p (ns.map V.int) ∧ ns ≠ [] ∧ ∀ M, M ∈ ns → (∀ a ∈ ns, a ≤ M) → Q (.int M) H) := by
  intro pins s σ H xs us Q I r h
  obtain ⟨p, ns, rfl, hq, hne, q⟩ := h
  obtain ⟨u, rfl, rx⟩ := vals1 r
  cases rx
  obtain ⟨its, r', pl, hz⟩ := I.list hq
  have hi : IntsAre its ns := intsAre_of r'
  obtain ⟨xs, hx⟩ := hi.allInts.items
  have hns : ns = xs.toList.map (·.1) := by rw [← hi.numsOf, ← nums_intItems, ← hx]
  have hsz : 0 < xs.size := by
    have h3 : 0 < ns.length := List.length_pos_iff.mpr hne
    rw [hns, List.length_map, Array.length_toList] at h3; exact h3
  have hl := pl.isList
  rw [hx] at hl
  refine max_intList (I.ok.hd hc) hl hsz fun v h' tk hv hk => ?_
  obtain ⟨t, rfl⟩ := intItems_at hv
  obtain ⟨h1, h2⟩ := argBest_gt (numAt xs) (xs.size - 1)
  refine ⟨.int _, H, I.kept hk, ⟨t, rfl⟩, q _ ?_ fun a ha => ?_⟩
  · rw [hns, numAt_eq]; exact getD_mem (by rw [List.length_map, Array.length_toList]; omega)
  · rw [hns] at ha
    obtain ⟨j, hj, rfl⟩ := mem_getD ha
    rw [List.length_map, Array.length_toList] at hj
    rw [← numAt_eq]; exact h2 j (by omega)
theorem px_maxL {ns : List Int} {M : Int} {pp : Pos} (hc : X.calm = true) (hm : X.mg "max" = none) (ha : PX X ρ G a (.lst (ns.map .int))) (h1 : M ∈ ns) (h2 : ∀ a ∈ ns, a ≤ M) (hg : Gl X "max" := by rfl) (he : starEach [a] X.env = (false, eval a X.env) :: starEach [] X.env := by rfl) : PX X ρ G (.Call (.Name "max" pp) [a] [] pos) (.int M) :=
  px_call1 (call_maxL hc) hg hm (by decide +kernel) ha (fun H x Q o r k => by
    rw [Rep] at r
    obtain ⟨q, vs, e, g1, r1⟩ := r
    refine ⟨q, ns, by rw [e], by rw [← r1.ints]; exact SqL.of (hid_le _ _ g1), List.ne_nil_of_mem h1, fun M' g2 g3 => ?_⟩
    obtain rfl : M' = M := Int.le_antisymm (h2 _ g2) (g3 _ h1)
    exact k _ _ (po1' o rfl)) (he := he)
noncomputable def SeqOf (G : Gs) (d : Dat) (l : List Dat) : Prop := d = .tup l ∨ d = .lst l ∨ ∃ p, d = .fn p ∧ G p = some (.lst l)
theorem seq_in {H : Hp} {K : PySem.W.Frag} {y : V} (h : SeqOf G d l) (o : GOk K H G) (r : Rep K (hid H G) d y) : ∃ p vs, y = .ref p ∧ (H p = some (.lst vs) ∨ SqT K H p vs) ∧ RepL K H l vs := by
  rcases h with rfl | rfl | ⟨p, rfl, hG⟩
  · exact in_of (.inl r)
  · exact in_of (.inr r)
  · obtain ⟨vs, h3, r3⟩ := o p _ hG
    exact ⟨p, vs, r, .inl h3, r3.same hid_le⟩
theorem pxc_inS (hu : X.A.units + 9 < cLine) (ha : PX X ρ G a d1) (hb : PX X ρ G b d2) (hl : SeqOf G d2 l) (p1 : plainD 8 d1 = true) (p2 : l.all (plainD 8) = true) : PXC X ρ G .In a b (.bl (l.any fun e => eqD e d1)) :=
  pxc_op (op_inD hu) ha hb fun H x y Q o hx hy k => by
    obtain ⟨p, vs, h1, h2, h3⟩ := seq_in hl o hy
    exact ⟨p, vs, d1, l, h1, h2, h3, hx.same hid_le, p1, p2, k _ _ (po1' o rfl)⟩
theorem pxc_notInS (hu : X.A.units + 9 < cLine) (ha : PX X ρ G a d1) (hb : PX X ρ G b d2) (hl : SeqOf G d2 l) (p1 : plainD 8 d1 = true) (p2 : l.all (plainD 8) = true) : PXC X ρ G .NotIn a b (.bl (!(l.any fun e => eqD e d1))) :=
  pxc_op (op_notInD hu) ha hb fun H x y Q o hx hy k => by
    obtain ⟨p, vs, h1, h2, h3⟩ := seq_in hl o hy
    exact ⟨p, vs, d1, l, h1, h2, h3, hx.same hid_le, p1, p2, k _ _ (po1' o rfl)⟩
theorem px_leLe (ha : PX X ρ G a (.int i)) (hb : PX X ρ G b (.int j)) (hc : PX X ρ G c (.int z)) (hm : lastMarks [.LtE, .LtE] [b, c] = false := by with_unfolding_all rfl) : PX X ρ G (.Compare a [.LtE, .LtE] [b, c] pos) (.bl (decide (i ≤ j) && decide (j ≤ z))) :=
  we_pe (pe_chain op_le op_le pe_we pe_we pe_we hm) fun σ H S => ⟨ρ, G, _, ha, S, fun x H1 ⟨_, _, e1, o1, r1, q1, q1'⟩ => by
    subst q1; subst q1'
    refine ⟨ρ, _, _, hb, S.ext e1 o1, fun y H2 ⟨_, _, e2, o2, r2, q2, q2'⟩ => ?_⟩
    subst q2; subst q2'
    refine ⟨i, j, r1, r2, decide (i ≤ j), rfl, ?_⟩
    by_cases h : i ≤ j
    · rw [decide_eq_true h, if_pos rfl]
      refine ⟨ρ, _, _, hc, S.ext (e1.trans e2) o2, fun w' H3 ⟨_, _, e3, o3, r3, q3, q3'⟩ => ?_⟩
      subst q3; subst q3'
      exact ⟨j, z, r2, r3, Po.trans ((e1.trans e2).trans e3) (po1' o3 rfl)⟩
    · rw [decide_eq_false h, if_neg (by decide)]
      exact Po.trans (e1.trans e2) (po1' o2 rfl)⟩
theorem pxt_leLe (ha : PX X ρ G a (.int i)) (hb : PX X ρ G b (.int j)) (hc : PX X ρ G c (.int z)) (hm : lastMarks [.LtE, .LtE] [b, c] = false := by with_unfolding_all rfl) : PXT X ρ G (.Compare a [.LtE, .LtE] [b, c] pos) (decide (i ≤ j) && decide (j ≤ z)) :=
  wt_pt (pt_chain op_le op_le pe_we pe_we pe_we hm) fun σ H S => ⟨ρ, G, _, ha, S, fun x H1 ⟨_, _, e1, o1, r1, q1, q1'⟩ => by
    subst q1; subst q1'
    refine ⟨ρ, _, _, hb, S.ext e1 o1, fun y H2 ⟨_, _, e2, o2, r2, q2, q2'⟩ => ?_⟩
    subst q2; subst q2'
    refine ⟨i, j, r1, r2, decide (i ≤ j), rfl, ?_⟩
    by_cases h : i ≤ j
    · rw [decide_eq_true h, if_pos rfl]
      refine ⟨ρ, _, _, hc, S.ext (e1.trans e2) o2, fun w' H3 ⟨_, _, e3, o3, r3, q3, q3'⟩ => ?_⟩
      subst q3; subst q3'
      exact ⟨j, z, r2, r3, decide (j ≤ z), rfl, _, (e1.trans e2).trans e3, o3, rfl, rfl⟩
    · rw [decide_eq_false h, if_neg (by decide)]
      exact ⟨false, rfl, _, e1.trans e2, o2, rfl, rfl⟩⟩
end
end TF
namespace TF
open PySem PySem.Spec L2
open PyProof.Rows hiding St RelV
section
variable {X : Cx} {ρ : Rho} {G : Gs} {e a b c : Expr} {es : List Expr} {d d' d1 d2 d3 k : Dat} {ds l m : List Dat} {pos : Pos} {i j z : Int} {p : Addr} {kvs : List (Dat × Dat)} {D : DE} {rest body : List Stmt}
structure DfA (P : Program) (w : World) (K : PySem.W.Frag) (mg : Str → Option Value) (base : Heap) (f : Addr) (ps : List Str) (k : Nat) (S : SpD) : Prop where
  ex : ∃ fd, FnOk P w K mg base CX0 k f fd ps (liftG K S) ∧ PySem.W.keepIn K (.ref f) = true ∧ Binds K fd ps []
theorem px_gint {x : Str} {t : Tok} (hm : X.mg x = some (.int i t)) (hg : Gl X x := by rfl) (hd : (x == ("__debug__" : Str)) = false := by decide) : PX X ρ G (.Name x pos) (.int i) :=
  we_pe (pe_glob (v := .int i) hg hm ⟨t, rfl⟩ hd) fun σ H S => po1' S.own rfl
end
end TF
namespace TF
open PySem PySem.Spec L2
open PyProof.Rows hiding St RelV
noncomputable def tyS : Dat → Option String
  | .non => some "NoneType"
  | .bl _ => some "bool"
  | .int _ => some "int"
  | .str _ => some "str"
  | .fn _ => none
  | .scr _ => some "list"
  | .tup _ => some "tuple"
  | .lst _ => some "list"
noncomputable def isS (t c : String) : Bool := t == c || (t == "bool" && c == "int")
theorem kit_of {K : PySem.W.Frag} (t c : String) (ht : t ∈ ["NoneType", "bool", "int", "str", "tuple", "list"]) (hc : c ∈ ["bool", "int", "str", "tuple", "list"]) : PySem.W.kitOne K (.type t) (.type c) = some (isS t c) := by
  simp only [List.mem_cons, List.not_mem_nil, or_false] at ht hc
  rcases ht with rfl | rfl | rfl | rfl | rfl | rfl <;> rcases hc with rfl | rfl | rfl | rfl | rfl <;> rfl
section
variable {X : Cx} {ρ : Rho} {G : Gs} {e a b c : Expr} {d : Dat} {pos : Pos}
theorem isi_at {pins : List (Addr × Obj)} {σ : St} {H : Hp} {s : Shared} {A : Around} {E : Value → Shared → Prop} {Q : Value → Shared → Prop} {cl : Value} {q : Bool} {v : V} {u : Value} {t : String} (I : Inv X pins σ H s) (ru : RelV v u) (r : Rep X.K H d v) (ht : tyS d = some t)
    (ek : PySem.W.kitOne X.K (.type t) cl = some q) (h : ∀ tk, Q (.bool q) { s with toks := tk }) : wpAny (model X.prog X.w) A (call (.builtin "isinstance") [u, cl]) Q E s := by
  cases d with
  | fn a => cases ht
  | non => cases ht; rw [Rep] at r; subst r; exact isinst_ok I ru (.non) ek h
  | bl b => cases ht; rw [Rep] at r; subst r; exact isinst_ok I ru (.bl b) ek h
  | int b => cases ht; rw [Rep] at r; subst r; exact isinst_ok I ru (.int b) ek h
  | str b => cases ht; rw [Rep] at r; subst r; exact isinst_ok I ru (.str b) ek h
  | scr ns =>
    cases ht
    rw [Rep] at r
    obtain ⟨a, rfl, hq⟩ := r
    cases ru
    obtain ⟨its, r', pl, hz⟩ := I.list hq
    obtain ⟨o, h1, h2, _⟩ := pl.isList
    exact PySem.W.kia_one PySem.W.kitx_list I.kIn ⟨_, h1, h2⟩ ek (fun z => nomatch z) h
  | tup l =>
    cases ht
    rw [Rep] at r
    obtain ⟨a, vs, rfl, hq, _⟩ := r
    cases ru
    obtain ⟨its, r', pl, hz⟩ := I.tuple hq
    obtain ⟨o, h1, h2, _⟩ := pl
    exact PySem.W.kia_one PySem.W.kitx_tuple I.kIn ⟨_, h1, h2⟩ ek (fun z => nomatch z) h
  | lst l =>
    cases ht
    rw [Rep] at r
    obtain ⟨a, vs, rfl, hq, _⟩ := r
    cases ru
    obtain ⟨its, r', pl, hz⟩ := I.list (SqL.of hq)
    obtain ⟨o, h1, h2, _⟩ := pl.isList
    exact PySem.W.kia_one PySem.W.kitx_list I.kIn ⟨_, h1, h2⟩ ek (fun z => nomatch z) h
theorem call_isi {d : Dat} {t : String} {T : String} (ht : tyS d = some t) (hT : T ∈ ["bool", "int", "str", "tuple", "list"]) : CallR X (.builtin "isinstance") (fun xs H Q => ∃ v, xs = [v, .ty T] ∧ Rep X.K H d v ∧ Q (.bl (isS t T)) H) := by
  intro pins s σ H xs us Q I r h
  obtain ⟨v, rfl, rd, q⟩ := h
  obtain ⟨u, w', rfl, ru, rw'⟩ := vals2 r
  cases (show w' = Value.type T from rw')
  refine isi_at I ru rd ht (kit_of t T ?_ hT) fun tk => ⟨.bl _, H, I.tok _, rfl, q⟩
  cases d <;> simp only [tyS, Option.some.injEq, reduceCtorEq] at ht <;> subst ht <;> decide
theorem px_isi {t : String} {T : Str} {T' : String} {pp p2 : Pos} (hm : X.mg "isinstance" = none) (hT : X.mg T = none) (ha : PX X ρ G a d) (ht : tyS d = some t := by rfl) (hb : bootBuiltins T = some (.type T') := by decide +kernel) (hT' : T' ∈ ["bool", "int", "str", "tuple", "list"] := by decide) (hg : Gl X "isinstance" := by rfl) (hgT : Gl X T := by rfl)
    (hn : T ≠ "__name__" := by decide) (hdb : (T == ("__debug__" : Str)) = false := by decide) (he : starEach [a, .Name T p2] X.env = (false, eval a X.env) :: starEach [.Name T p2] X.env := by rfl) : PX X ρ G (.Call (.Name "isinstance" pp) [a, .Name T p2] [] pos) (.bl (isS t T')) :=
  we_pe (pe_callB (call_isi ht hT') hg hm (by decide +kernel) (pa_cons pe_we (pa_cons (pe_bltn (v := .ty T') hgT hT hb rfl hn hdb) pa_nil) he) (by decide) (by decide) he rfl) fun σ H S => ⟨ρ, G, _, ha, S, fun x H1 ⟨_, _, e1, o1, r1, q1, q1'⟩ => by
    subst q1; subst q1'
    exact ⟨x, rfl, r1.same hid_le, Po.trans e1 (po1' o1 rfl)⟩⟩
end
end TF
namespace TF
open PySem PySem.Spec L2
open PyProof.Rows hiding St RelV
noncomputable def Kn (G G' : Gs) : Prop := ∀ q o, G q = some o → G' q = some o
theorem Kn.refl (G : Gs) : Kn G G := fun _ _ h => h
theorem kn_put {G : Gs} {p : Addr} {o : OD} (h : G p = none) : Kn G (put G p o) := fun q u e => by
  by_cases hq : q = p
  · subst hq; rw [h] at e; cases e
  · rw [put_ne hq]; exact e
theorem SeqOf.kn {G G' : Gs} {d : Dat} {l : List Dat} (h : SeqOf G d l) (k : Kn G G') : SeqOf G' d l := by
  rcases h with h | h | ⟨p, h1, h2⟩
  · exact .inl h
  · exact .inr (.inl h)
  · exact .inr (.inr ⟨p, h1, k _ _ h2⟩)
section
variable {X : Cx} {ρ : Rho} {G : Gs} {elt target iter c : Expr} {ifs : List Expr} {scope : Scope} {cpos pos pos' : Pos} {Nc : List Str} {caps : List (Option Nat)} {l : List Dat} {f : Dat → Rho → Option Rho} {D : DE} {rest : List Stmt}
theorem wi_pv {tg it : Expr} {Pv : Nat → List Dat → Gs → Prop} (hi : WI X ρ G tg it fun l' G' => l' = l ∧ G' = G) (h0 : Pv 0 [] G) : WI X ρ G tg it fun l' G' => l' = l ∧ Pv 0 [] G' := fun pins s σ H I S =>
  thn (hi pins s σ H I S) fun v s1 h1 => thn h1 fun itv s2 hh => by
    obtain ⟨it, fp, tn, J, H', e, I', T, st, fk, l', G', e', o', wk, q1, q2⟩ := hh
    exact ⟨it, fp, tn, J, H', e, I', T, st, fk, l', G', e', o', wk, q1, by rw [q2]; exact h0⟩
theorem step_map (g : Dat → Dat) (hz : l.length ≤ 5000)
    (hstep : ∀ C s' H' fp G' d, d ∈ l → Kn G G' → ∃ ρ', f d (pick caps ρ) = some ρ' ∧ PX (compCx X Nc scope C s' H' fp) ρ' G' elt (g d)) :
    ∀ C s' H' fp Dd i d acc G', l[i]? = some d → (G' = G ∧ acc = (l.take i).map g) → G' Dd = none → ∃ ρ', f d (pick caps ρ) = some ρ' ∧
      WTail (compCx X Nc scope C s' H' fp) ρ' (put G' Dd (.lst acc)) (emitT elt (compCx X Nc scope C s' H' fp).env (.ref Dd)) fun G'' => ∃ acc' G4, acc'.length ≤ acc.length + 1 ∧ G4 Dd = none ∧ G'' = put G4 Dd (.lst acc') ∧ (G4 = G ∧ acc' = (l.take (i + 1)).map g) := by
  rintro C s' H' fp Dd i d acc G' hd ⟨rfl, rfl⟩ hD
  obtain ⟨ρ', h1, h2⟩ := hstep C s' H' fp (put G' Dd (.lst ((l.take i).map g))) d (List.mem_of_getElem? hd) (kn_put hD)
  refine ⟨ρ', h1, wtail_emit rfl put_same ?_ (PX.we h2 ⟨put_same, _, G', ?_, hD, put_put, rfl, ?_⟩)⟩
  · have : ((l.take i).map g).length ≤ l.length := by rw [List.length_map, List.length_take]; omega
    exact Nat.lt_of_le_of_lt (Nat.le_trans this hz) (by decide)
  · simp
  · rw [List.take_add_one, hd]
    simp
theorem step_fil (p : Dat → Bool) (g : Dat → Dat) (hz : l.length ≤ 5000)
    (hstep : ∀ C s' H' fp G' d, d ∈ l → Kn G G' → ∃ ρ', f d (pick caps ρ) = some ρ' ∧ PXT (compCx X Nc scope C s' H' fp) ρ' G' c (p d) ∧ (p d = true → PX (compCx X Nc scope C s' H' fp) ρ' G' elt (g d))) :
    ∀ C s' H' fp Dd i d acc G', l[i]? = some d → (G' = G ∧ acc = ((l.take i).filter p).map g) → G' Dd = none → ∃ ρ', f d (pick caps ρ) = some ρ' ∧
      WTail (compCx X Nc scope C s' H' fp) ρ' (put G' Dd (.lst acc)) (testT c elt (compCx X Nc scope C s' H' fp).env (.ref Dd)) fun G'' => ∃ acc' G4, acc'.length ≤ acc.length + 1 ∧ G4 Dd = none ∧ G'' = put G4 Dd (.lst acc') ∧ (G4 = G ∧ acc' = ((l.take (i + 1)).filter p).map g) := by
  rintro C s' H' fp Dd i d acc G' hd ⟨rfl, rfl⟩ hD
  obtain ⟨ρ', h1, h2, h3⟩ := hstep C s' H' fp (put G' Dd (.lst (((l.take i).filter p).map g))) d (List.mem_of_getElem? hd) (kn_put hD)
  have et : (l.take (i + 1)).filter p = (l.take i).filter p ++ (if p d = true then [d] else []) := by
    rw [List.take_add_one, hd, List.filter_append]
    simp only [Option.toList_some, List.filter_cons, List.filter_nil]
  refine ⟨ρ', h1, wtail_test rfl (pxt_mono h2 ⟨fun hp => ?_, fun hp => ?_⟩)⟩
  · refine wtail_emit rfl put_same ?_ (PX.we (h3 hp) ⟨put_same, _, G', ?_, hD, put_put, rfl, ?_⟩)
    · have : (((l.take i).filter p).map g).length ≤ l.length := by
        rw [List.length_map]
        exact Nat.le_trans (List.length_filter_le _ _) (by rw [List.length_take]; omega)
      exact Nat.lt_of_le_of_lt (Nat.le_trans this hz) (by decide)
    · simp
    · rw [et, if_pos hp]; simp
  · refine ⟨_, G', ?_, hD, rfl, rfl, ?_⟩
    · simp
    · rw [et, if_neg (by rw [hp]; decide)]; simp
theorem px_compM (g : Dat → Dat) (Sc : CompSc X scope Nc caps) (hcalm : X.calm = true) (hi : WI X ρ G target iter fun l' G' => l' = l ∧ G' = G)
    (hg : ∀ C s' H' fp, PGD (compCx X Nc scope C s' H' fp) target f) (hle : ∀ d ρ', f d (pick caps ρ) = some ρ' → ρ'.length = (pick caps ρ).length ∧ ∀ (j : Nat) e, (pick caps ρ)[j]? = some (some e) → ρ'[j]? = some (some e)) (hz : l.length ≤ 5000)
    (hstep : ∀ C s' H' fp G' d, d ∈ l → Kn G G' → ∃ ρ', f d (pick caps ρ) = some ρ' ∧ PX (compCx X Nc scope C s' H' fp) ρ' G' elt (g d)) (hfs : ∀ x, foldedSetIterable iter X.env x = pure x := by intro _; rfl) :
    PX X ρ G (.ListComp elt [⟨target, iter, [], 0⟩] scope cpos) (.lst (l.map g)) :=
  we_comp (Pv := fun i acc G' => G' = G ∧ acc = (l.take i).map g) (turnIs_0 elt target iter scope cpos) Sc hcalm (wi_pv (Pv := fun i acc G' => G' = G ∧ acc = (l.take i).map g) hi ⟨rfl, by simp⟩) hg hle (Nat.le_trans hz (by decide)) (step_map g hz hstep) (by
    rintro acc G' ⟨rfl, rfl⟩
    rw [List.take_length]
    exact ⟨rfl, rfl⟩) hfs
theorem px_compF (p : Dat → Bool) (g : Dat → Dat) (Sc : CompSc X scope Nc caps) (hcalm : X.calm = true) (hi : WI X ρ G target iter fun l' G' => l' = l ∧ G' = G)
    (hg : ∀ C s' H' fp, PGD (compCx X Nc scope C s' H' fp) target f) (hle : ∀ d ρ', f d (pick caps ρ) = some ρ' → ρ'.length = (pick caps ρ).length ∧ ∀ (j : Nat) e, (pick caps ρ)[j]? = some (some e) → ρ'[j]? = some (some e)) (hz : l.length ≤ 5000)
    (hstep : ∀ C s' H' fp G' d, d ∈ l → Kn G G' → ∃ ρ', f d (pick caps ρ) = some ρ' ∧ PXT (compCx X Nc scope C s' H' fp) ρ' G' c (p d) ∧ (p d = true → PX (compCx X Nc scope C s' H' fp) ρ' G' elt (g d))) (hfs : ∀ x, foldedSetIterable iter X.env x = pure x := by intro _; rfl) :
    PX X ρ G (.ListComp elt [⟨target, iter, [c], 0⟩] scope cpos) (.lst ((l.filter p).map g)) :=
  we_comp (Pv := fun i acc G' => G' = G ∧ acc = ((l.take i).filter p).map g) (turnIs_1 elt target iter c scope cpos) Sc hcalm (wi_pv (Pv := fun i acc G' => G' = G ∧ acc = ((l.take i).filter p).map g) hi ⟨rfl, by simp⟩) hg hle (Nat.le_trans hz (by decide)) (step_fil p g hz hstep) (by
    rintro acc G' ⟨rfl, rfl⟩
    rw [List.take_length]
    exact ⟨rfl, rfl⟩) hfs
end
end TF
namespace TF
open PySem PySem.Spec L2
open PyProof.Rows hiding St RelV
noncomputable def sqLt (p q : Sq) : Prop := p.1 < q.1 ∨ (p.1 = q.1 ∧ p.2 < q.2)
noncomputable instance (p q : Sq) : Decidable (sqLt p q) := by unfold sqLt; infer_instance
theorem sqLt_irrefl (p : Sq) : ¬ sqLt p p := by unfold sqLt; omega
theorem sqLt_trans {p q r : Sq} (h : sqLt p q) (h' : sqLt q r) : sqLt p r := by unfold sqLt at *; omega
theorem sqLt_tri (p q : Sq) : sqLt p q ∨ p = q ∨ sqLt q p := by
  obtain ⟨a, b⟩ := p
  obtain ⟨c, d⟩ := q
  unfold sqLt
  simp only [Prod.mk.injEq]
  omega
structure Good (F : List Sq) : Prop where
  ne : F ≠ []
  up : F.Pairwise sqLt
  inn : ∀ p ∈ F, 0 ≤ p.1 ∧ p.1 ≤ 7 ∧ 0 ≤ p.2 ∧ p.2 ≤ 7
  len : F.length ≤ 24
theorem Good.nodup {F : List Sq} (h : Good F) : F.Nodup := h.up.imp fun {a b} hab e => by subst e; exact sqLt_irrefl _ hab
noncomputable def rect (r w d e : Nat) : List Sq := (List.range r).flatMap fun i => (List.range w).map fun j => (((d + i : Nat) : Int), ((e + j : Nat) : Int))
theorem rect_len (r w d e : Nat) : (rect r w d e).length = r * w := by
  unfold rect
  induction r with
  | zero => simp
  | succ r ih => rw [List.range_succ, List.flatMap_append, List.length_append, ih]; simp [Nat.succ_mul]
theorem mem_rect {r w d e : Nat} {p : Sq} : p ∈ rect r w d e ↔ ∃ i j : Nat, i < r ∧ j < w ∧ p = (((d + i : Nat) : Int), ((e + j : Nat) : Int)) := by
  unfold rect
  simp only [List.mem_flatMap, List.mem_map, List.mem_range]
  constructor
  · rintro ⟨i, hi, j, hj, rfl⟩; exact ⟨i, j, hi, hj, rfl⟩
  · rintro ⟨i, j, hi, hj, rfl⟩; exact ⟨i, hi, j, hj, rfl⟩
theorem rect_succ (i w d e : Nat) : rect (i + 1) w d e = rect i w d e ++ (List.range w).map fun j => (((d + i : Nat) : Int), ((e + j : Nat) : Int)) := by
  unfold rect
  rw [List.range_succ, List.flatMap_append]
  simp
theorem rect_up (r w d e : Nat) : (rect r w d e).Pairwise sqLt := by
  induction r with
  | zero => exact List.Pairwise.nil
  | succ r ih =>
    rw [rect_succ, List.pairwise_append]
    refine ⟨ih, ?_, fun p hp q hq => ?_⟩
    · rw [List.pairwise_map]
      refine List.Pairwise.imp (fun {a b} h => ?_) List.pairwise_lt_range
      exact .inr ⟨rfl, by show ((e + a : Nat) : Int) < ((e + b : Nat) : Int); omega⟩
    · obtain ⟨i, j, hi, hj, rfl⟩ := mem_rect.mp hp
      obtain ⟨j', _, rfl⟩ := List.mem_map.mp hq
      exact .inl (by show ((d + i : Nat) : Int) < ((d + r : Nat) : Int); omega)
theorem good_sub {r w d e : Nat} (h1 : r * w ≤ 24) (h2 : d + r ≤ 8) (h3 : e + w ≤ 8) {F : List Sq} (hs : F.Sublist (rect r w d e)) (hne : F ≠ []) : Good F := by
  refine ⟨hne, (rect_up r w d e).sublist hs, fun p hp => ?_, ?_⟩
  · obtain ⟨i, j, hi, hj, rfl⟩ := mem_rect.mp (hs.subset hp)
    show 0 ≤ ((d + i : Nat) : Int) ∧ ((d + i : Nat) : Int) ≤ 7 ∧ 0 ≤ ((e + j : Nat) : Int) ∧ ((e + j : Nat) : Int) ≤ 7
    omega
  · exact Nat.le_trans hs.length_le (by rw [rect_len]; exact h1)
noncomputable def ShapeOk (r w : Nat) : Prop := (1 ≤ r ∧ r ≤ 4 ∧ 1 ≤ w ∧ w ≤ 5) ∨ (r = 2 ∧ w = 12) ∨ (r = 3 ∧ w = 8) ∨ (r = 8 ∧ w = 3) ∨ (r = 6 ∧ w = 4)
theorem shape_mul {r w : Nat} (h : ShapeOk r w) : r * min w 8 ≤ 24 ∧ 0 < r * min w 8 := by
  rcases h with ⟨h1, h2, h3, h4⟩ | ⟨rfl, rfl⟩ | ⟨rfl, rfl⟩ | ⟨rfl, rfl⟩ | ⟨rfl, rfl⟩
  · have : min w 8 = w := by omega
    rw [this]
    exact ⟨Nat.le_trans (Nat.mul_le_mul h2 h4) (by decide), Nat.mul_pos h1 h3⟩
  all_goals decide
noncomputable def mixI (c p m : Int) : Int := c * 48271 % p % m
theorem mix_nat (c p : Int) (m : Nat) (hm : 0 < m) : ∃ r : Nat, r < m ∧ mixI c p (m : Int) = (r : Int) := by
  refine ⟨(mixI c p m).toNat, ?_, ?_⟩
  · have := Int.emod_lt_of_pos (c * 48271 % p) (show (0 : Int) < m by omega)
    have := Int.emod_nonneg (c * 48271 % p) (show (m : Int) ≠ 0 by omega)
    unfold mixI; omega
  · have := Int.emod_nonneg (c * 48271 % p) (show (m : Int) ≠ 0 by omega)
    unfold mixI; omega
theorem fil_sq (L : List Sq) (p : Dat → Bool) : ((L.map sq).filter p).map id = (L.filter fun q => p (sq q)).map sq := by
  rw [List.map_id, List.filter_map]
  rfl
theorem sz {n : Nat} (h : n ≤ 5000) : n ≤ sizeLine := Nat.le_trans h (by decide)
theorem sz1 {n : Nat} (h : n ≤ 5000) : n < sizeLine := Nat.lt_of_le_of_lt h (by decide)
theorem rangeD_len (i : Int) (n : Nat) : (rangeD i n).length = n := by simp [rangeD]
theorem rangeD_get {lo : Int} {n i : Nat} {d : Dat} (h : (rangeD lo n)[i]? = some d) : i < n ∧ d = .int (lo + (i : Nat)) := by
  have hlt : i < n := by
    have := (List.getElem?_eq_some_iff.mp h).1
    simpa [rangeD] using this
  have : (rangeD lo n)[i]? = some (.int (lo + i)) := by simp [rangeD, hlt]
  rw [this] at h; cases h; exact ⟨hlt, rfl⟩
theorem rangeD_mem {lo : Int} {n : Nat} {d : Dat} (h : d ∈ rangeD lo n) : ∃ i : Nat, i < n ∧ d = .int (lo + (i : Nat)) := by
  obtain ⟨i, hi⟩ := List.mem_iff_getElem?.mp h
  exact ⟨i, rangeD_get hi⟩
noncomputable def spCell : SpD := fun ds G R => ∃ (ns : List Int) (k : Nat), ds = [.scr ns, .int k] ∧ R (.int (cellN ns k)) G
noncomputable def spMix : SpD := fun ds G R => ∃ (c p m : Int), ds = [.int c, .int p, .int m] ∧ 0 < p ∧ 0 < m ∧ R (.int (mixI c p m)) G
noncomputable def spFloor : SpD := fun ds G R => ∃ (ns : List Int) (k : Nat), ds = [.scr ns, .int k] ∧ ∀ F, Good F → R (fl F) G
end TF
namespace TF
theorem nodup_le {α : Type} [DecidableEq α] : ∀ {l m : List α}, l.Nodup → (∀ x ∈ l, x ∈ m) → l.length ≤ m.length
  | [], _, _, _ => Nat.zero_le _
  | a :: r, m, hn, hs => by
    obtain ⟨h1, h2⟩ := List.nodup_cons.mp hn
    have ha := hs a (List.mem_cons_self ..)
    have : r.length ≤ (m.erase a).length := nodup_le h2 fun x hx => by
      have hne : x ≠ a := by rintro rfl; exact h1 hx
      exact (List.mem_erase_of_ne hne).mpr (hs x (List.mem_cons_of_mem _ hx))
    rw [List.length_erase_of_mem ha] at this
    have hp : 0 < m.length := List.length_pos_of_mem ha
    rw [List.length_cons]; omega
noncomputable def nbM (q : Sq) : List Sq := [(q.1 - 1, q.2), (q.1, q.2 - 1), (q.1, q.2 + 1), (q.1 + 1, q.2)]
end TF
namespace TF
open PySem PySem.Spec L2
open PyProof.Rows hiding St RelV
theorem key_sq (q : Sq) : keyD 6 (sq q) = true := rfl
theorem lookD_sq (L : List Sq) (v : Sq → Dat) (y : Sq) : lookD (L.map fun q => (sq q, v q)) (sq y) = if y ∈ L then some (v y) else none := by
  induction L with
  | nil => rfl
  | cons a r ih =>
    unfold lookD at ih ⊢
    rw [List.map_cons, List.find?_cons]
    by_cases h : a = y
    · subst h
      simp
    · have hne : sq a ≠ sq y := fun e => h (sq_inj e)
      rw [decide_eq_false hne]
      simp only
      rw [ih]
      have : (y ∈ a :: r) ↔ y ∈ r := by simp [Ne.symm h]
      simp only [this]
theorem plain_sqD (q : Sq) : plainD 8 (sq q) = true := plain_sq q 7
theorem plain_sqsD (l : List Sq) : (l.map sq).all (plainD 8) = true := plain_sqs l 7
end TF
namespace TF
open PySem PySem.Spec L2
open PyProof.Rows hiding St RelV
theorem nb_nodup (q : Sq) : (nbM q).Nodup := by
  obtain ⟨a, b⟩ := q
  simp only [nbM, List.nodup_cons, List.mem_cons, List.not_mem_nil, or_false, Prod.mk.injEq, List.nodup_nil, and_true, not_false_eq_true]
  omega
noncomputable def spNear : SpD := fun ds G R => ∃ (F : List Sq) (q : Sq), ds = [fl F, sq q] ∧ R (.lst (((nbM q).filter F.contains).map sq)) G
noncomputable def spTrue : SpD := fun ds G R => ∃ (ns : List Int), ds = [.scr ns] ∧ R (.bl true) G
theorem cut1 (l : List Dat) : cutD l (some 1) none = l.drop 1 := by
  unfold cutD
  cases l with
  | nil => rfl
  | cons x r =>
    have e : HT.sIx (x :: r).length 0 (some 1) = 1 := by
      have := HT.sIx_nat (x :: r).length 0 1
      rw [show ((1 : Nat) : Int) = 1 from rfl] at this
      rw [this, List.length_cons]
      omega
    rw [e, HT.sIx_none]
    simp
end TF
namespace TS
open PySem PyProof.Rows
variable {prog : Program} {w : World} {A : Around} {E : Value → Shared → Prop} {s : Shared} {a₀ : Array Keyed} {r : Keyed → Nat} {k0 : SortKind}
noncomputable def CmpOk (prog : Program) (w : World) (A : Around) (s : Shared) (a₀ : Array Keyed) (r : Keyed → Nat) (k0 : SortKind) : Prop :=
  ∀ x y, x ∈ a₀.toList → y ∈ a₀.toList → ∀ (E : Value → Shared → Prop) (Q : Bool → Shared → Prop), Q (decide (r x < r y)) s → wpAny (model prog w) A (keyLt' k0 x.1 y.1) Q E s
structure SB (a₀ : Array Keyed) (k0 : SortKind) (st : SortSt) : Prop where
  perm : (arrOf st).Perm a₀
  kind : kindOf st = k0
  failed : failedOf st = none
theorem SB.size {st : SortSt} (h : SB a₀ k0 st) : (arrOf st).size = a₀.size := h.perm.size_eq
theorem SB.mem {st : SortSt} (h : SB a₀ k0 st) {p : Keyed} (hp : p ∈ (arrOf st).toList) : p ∈ a₀.toList := (Array.perm_iff_toList_perm.mp h.perm).mem_iff.mp hp
theorem SB.memAt {st : SortSt} (h : SB a₀ k0 st) {i : Nat} {p : Keyed} (hp : (arrOf st)[i]? = some p) : p ∈ a₀.toList := h.mem (by
  have := Array.mem_of_getElem? hp
  exact Array.mem_toList_iff.mpr this)
theorem SB.setArr {st : SortSt} (h : SB a₀ k0 st) {xs : Array Keyed} (hp : xs.Perm (arrOf st)) : SB a₀ k0 (setArr st xs) := ⟨hp.trans h.perm, h.kind, h.failed⟩
noncomputable def Rk (r : Keyed → Nat) (xs : Array Keyed) (i : Nat) : Nat := match xs[i]? with
  | some p => r p
  | none => 0
theorem Rk_eq {xs : Array Keyed} {i : Nat} {p : Keyed} (h : xs[i]? = some p) : Rk r xs i = r p := by unfold Rk; rw [h]
theorem Rk_congr {xs ys : Array Keyed} {i j : Nat} (h : xs[i]? = ys[j]?) : Rk r xs i = Rk r ys j := by unfold Rk; rw [h]
theorem Rk_mirror {xs : Array Keyed} {i j : Nat} (hj : j ≤ xs.size) (k : Nat) : Rk r (mirror xs i j ((j - i) / 2)) k = if i ≤ k ∧ k < j then Rk r xs (i + j - 1 - k) else Rk r xs k := by
  have e := getElem?_mirror_all (i := i) hj k
  by_cases h : i ≤ k ∧ k < j
  · rw [if_pos h] at e ⊢; exact Rk_congr e
  · rw [if_neg h] at e ⊢; exact Rk_congr e
theorem mirror_lo {xs : Array Keyed} {i j : Nat} (hj : j ≤ xs.size) {k : Nat} (hk : k < i) : (mirror xs i j ((j - i) / 2))[k]? = xs[k]? := by
  rw [getElem?_mirror_all (i := i) hj k, if_neg (by omega)]
theorem wpS_lt (hc : CmpOk prog w A s a₀ r k0) {st : SortSt} (hB : SB a₀ k0 st) {x y : Keyed} (hx : x ∈ a₀.toList) (hy : y ∈ a₀.toList) {Q : Option Bool → SortSt → Prop} (h : Q (some (decide (r x < r y))) st) : wpS (model prog w) A E s (lt' x y) Q st := by
  rw [lt'_eq]
  refine wpS_bind (wpS_get ?_)
  rw [hB.kind]
  refine wpS_bind (wpS_lift (wpAny_attempt (hc x y hx hy _ _ ⟨rfl, ?_⟩)))
  exact wpS_pure h
theorem wpS_elem {st : SortSt} {xs : Array Keyed} {i : Nat} {p : Keyed} (hp : xs[i]? = some p) {Q : Keyed → SortSt → Prop} (h : Q p st) : wpS (model prog w) A E s (elem' xs i) Q st := by
  rw [elem'_eq, hp]
  exact wpS_pure h
theorem wpS_ltAt (hc : CmpOk prog w A s a₀ r k0) {st : SortSt} (hB : SB a₀ k0 st) {i j : Nat} (hi : i < a₀.size) (hj : j < a₀.size) {Q : Option Bool → SortSt → Prop} (h : Q (some (decide (Rk r (arrOf st) i < Rk r (arrOf st) j))) st) : wpS (model prog w) A E s (ltAt' i j) Q st := by
  have ei : (arrOf st)[i]? = some ((arrOf st)[i]'(by rw [hB.size]; exact hi)) := getElem?_pos _ i (by rw [hB.size]; exact hi)
  have ej : (arrOf st)[j]? = some ((arrOf st)[j]'(by rw [hB.size]; exact hj)) := getElem?_pos _ j (by rw [hB.size]; exact hj)
  rw [Rk_eq ei, Rk_eq ej] at h
  rw [ltAt'_eq]
  refine wpS_bind (wpS_get ?_)
  refine wpS_bind (wpS_elem ei ?_)
  refine wpS_bind (wpS_elem ej ?_)
  exact wpS_lt hc hB (hB.memAt ei) (hB.memAt ej) h
noncomputable def countRun' : Nat → Nat → StateT SortSt Sem (Option Nat) := sortPriv% PySem.Builtin.countRun
noncomputable def binarySort' : Nat → Nat → Nat → StateT SortSt Sem Bool := sortPriv% PySem.Builtin.binarySort
noncomputable def gallop' : Bool → Keyed → Array Keyed → Nat → Nat → Nat → StateT SortSt Sem (Option Nat) := sortPriv% PySem.Builtin.gallop
noncomputable def mergeLo' : Array Keyed → Array Keyed → StateT SortSt Sem (Array Keyed) := sortPriv% PySem.Builtin.mergeLo
noncomputable def mergeHi' : Array Keyed → Array Keyed → StateT SortSt Sem (Array Keyed) := sortPriv% PySem.Builtin.mergeHi
structure Kp (a₀ : Array Keyed) (k0 : SortKind) (lo : Nat) (st st' : SortSt) : Prop where
  base : SB a₀ k0 st'
  pend : pendingOf st' = pendingOf st
  low : ∀ k, k < lo → (arrOf st')[k]? = (arrOf st)[k]?
theorem Kp.refl {st : SortSt} {lo : Nat} (h : SB a₀ k0 st) : Kp a₀ k0 lo st st := ⟨h, rfl, fun _ _ => rfl⟩
theorem Kp.trans {st st1 st2 : SortSt} {lo : Nat} (h : Kp a₀ k0 lo st st1) (h' : Kp a₀ k0 lo st1 st2) : Kp a₀ k0 lo st st2 := ⟨h'.base, h'.pend.trans h.pend, fun k hk => (h'.low k hk).trans (h.low k hk)⟩
theorem Kp.mirror {st : SortSt} {lo i j : Nat} (h : SB a₀ k0 st) (hi : lo ≤ i) (hj : j ≤ a₀.size) : Kp a₀ k0 lo st (PyProof.Rows.setArr st (mirror (arrOf st) i j ((j - i) / 2))) :=
  ⟨h.setArr (mirror_perm _ _ _ _), rfl, fun k hk => mirror_lo (by rw [h.size]; exact hj) (by omega)⟩
noncomputable def Up (r : Keyed → Nat) (xs : Array Keyed) (a b : Nat) : Prop := ∀ i j, a ≤ i → i ≤ j → j < b → Rk r xs i ≤ Rk r xs j
noncomputable def Dn (r : Keyed → Nat) (xs : Array Keyed) (a b : Nat) : Prop := ∀ i j, a ≤ i → i ≤ j → j < b → Rk r xs j ≤ Rk r xs i
theorem up_one (xs : Array Keyed) (a : Nat) : Up r xs a (a + 1) := fun i j h1 h2 h3 => by
  obtain rfl : i = j := by omega
  exact Nat.le_refl _
theorem up_step {xs : Array Keyed} {a b : Nat} (h : Up r xs a b) (hab : a < b) (hl : Rk r xs (b - 1) ≤ Rk r xs b) : Up r xs a (b + 1) := fun i j h1 h2 h3 => by
  by_cases hj : j < b
  · exact h i j h1 h2 hj
  · obtain rfl : j = b := by omega
    by_cases hi : i = j
    · subst hi; exact Nat.le_refl _
    · exact Nat.le_trans (h i (j - 1) h1 (by omega) (by omega)) hl
theorem dn_step {xs : Array Keyed} {a b : Nat} (h : Dn r xs a b) (hab : a < b) (hl : Rk r xs b ≤ Rk r xs (b - 1)) : Dn r xs a (b + 1) := fun i j h1 h2 h3 => by
  by_cases hj : j < b
  · exact h i j h1 h2 hj
  · obtain rfl : j = b := by omega
    by_cases hi : i = j
    · subst hi; exact Nat.le_refl _
    · exact Nat.le_trans hl (h i (j - 1) h1 (by omega) (by omega))
theorem split_tail {M : Model} {σ α : Type} {c : Prop} [Decidable c] {m t : StateT σ Sem α} {Q : α → σ → Prop} {st : σ} {P : σ → Prop} (ht : ∀ st1, P st1 → wpS M A E s t Q st1) (h : (∀ st1, P st1 → wpS M A E s t Q st1) → wpS M A E s (if c then m else t) Q st) : wpS M A E s (if c then m else t) Q st := h ht
theorem split_tail2 {M : Model} {σ α : Type} {c : Prop} [Decidable c] {m t : StateT σ Sem α} {Q : α → σ → Prop} {st : σ} {P : σ → Prop} (ht : ∀ st1, P st1 → wpS M A E s t Q st1) (h : (∀ st1, P st1 → wpS M A E s t Q st1) → wpS M A E s (if c then m else t) Q st) : wpS M A E s (if c then m else t) Q st := h ht
theorem wpS_countRun (hc : CmpOk prog w A s a₀ r k0) {st : SortSt} (hB : SB a₀ k0 st) {lo nrem : Nat} (h1 : 1 ≤ nrem) (h2 : lo + nrem ≤ a₀.size) {Q : Option Nat → SortSt → Prop}
    (h : ∀ m st', 1 ≤ m → m ≤ nrem → Kp a₀ k0 lo st st' → Up r (arrOf st') lo (lo + m) → Q (some m) st') : wpS (model prog w) A E s (countRun' lo nrem) Q st := by
  unfold countRun'
  refine wpS_bind (wpS_mono (wpS_forRange (I := fun x c st' => st' = st ∧ c = (none, x) ∧ x ≤ nrem ∧ Up r (arrOf st) lo (lo + x))
    (Q := fun c st' => st' = st ∧ ∃ n, c = (none, n) ∧ 1 ≤ n ∧ n ≤ nrem ∧ Up r (arrOf st) lo (lo + n) ∧ (n = nrem ∨ Rk r (arrOf st) (lo + n) < Rk r (arrOf st) (lo + n - 1))) ?_ ?_ ⟨rfl, rfl, h1, up_one _ _⟩) ?_)
  · rintro x c st' hx1 hx2 ⟨rfl, rfl, hx, hU⟩
    refine wpS_bind (wpS_ltAt hc hB (by omega) (by omega) ?_)
    dsimp only
    by_cases hlt : Rk r (arrOf st') (lo + x) < Rk r (arrOf st') (lo + x - 1)
    · rw [decide_eq_true hlt, if_pos rfl]
      exact wpS_pure ⟨rfl, x, rfl, hx1, hx, hU, .inr hlt⟩
    · rw [decide_eq_false hlt, if_neg (by decide)]
      exact wpS_pure ⟨rfl, rfl, by omega, up_step (b := lo + x) hU (by omega) (by omega)⟩
  · rintro c st' ⟨rfl, rfl, hx, hU⟩
    have e : max 1 nrem = nrem := by omega
    rw [e] at hU ⊢
    exact ⟨rfl, nrem, rfl, h1, Nat.le_refl _, hU, .inl rfl⟩
  rintro c st' ⟨rfl, n, rfl, hn1, hn2, hU, hor⟩
  dsimp only
  by_cases hnn : n = nrem
  · rw [if_pos (by simpa using hnn)]
    exact wpS_pure (h n _ hn1 hn2 (Kp.refl hB) hU)
  rw [if_neg (by simpa using hnn)]
  have hlt := hor.resolve_left hnn
  refine split_tail (P := fun st1 => Kp a₀ k0 lo st' st1 ∧ Dn r (arrOf st1) lo (lo + (n + 1))) ?tail ?rest
  case rest =>
    intro tail
    by_cases hgt : n > 1
    · rw [if_pos hgt]
      refine wpS_bind (wpS_ltAt hc hB (by omega) (by omega) ?_)
      dsimp only
      by_cases hrose : Rk r (arrOf st') lo < Rk r (arrOf st') (lo + n - 1)
      · rw [decide_eq_true hrose, if_pos rfl]
        exact wpS_pure (h n _ hn1 hn2 (Kp.refl hB) hU)
      · rw [decide_eq_false hrose, if_neg (by decide)]
        refine wpS_bind (wpS_modify (tail _ ⟨Kp.mirror hB (Nat.le_refl _) (by omega), ?_⟩))
        have hsz : lo + n ≤ (arrOf st').size := by rw [hB.size]; omega
        have heq : ∀ k, lo ≤ k → k < lo + n → Rk r (arrOf st') k = Rk r (arrOf st') (lo + n - 1) := fun k g1 g2 => by
          have := hU lo k (Nat.le_refl _) g1 g2
          have := hU k (lo + n - 1) g1 (by omega) (by omega)
          omega
        have hR : ∀ k, Rk r (mirror (arrOf st') lo (lo + n) ((lo + n - lo) / 2)) k = Rk r (arrOf st') k := fun k => by
          rw [Rk_mirror hsz]
          split
          · rw [heq _ (by omega) (by omega), heq k (by omega) (by omega)]
          · rfl
        intro i j g1 g2 g3
        show Rk r (mirror (arrOf st') lo (lo + n) ((lo + n - lo) / 2)) j ≤ Rk r (mirror (arrOf st') lo (lo + n) ((lo + n - lo) / 2)) i
        rw [hR, hR]
        by_cases hj : j = lo + n
        · subst hj
          by_cases hi : i = lo + n
          · subst hi; exact Nat.le_refl _
          · rw [heq i g1 (by omega)]; omega
        · rw [heq i g1 (by omega), heq j (by omega) (by omega)]
          exact Nat.le_refl _
    · rw [if_neg hgt]
      obtain rfl : n = 1 := by omega
      refine tail _ ⟨Kp.refl hB, ?_⟩
      intro i j g1 g2 g3
      by_cases hi : i = j
      · subst hi; exact Nat.le_refl _
      · obtain rfl : i = lo := by omega
        obtain rfl : j = i + 1 := by omega
        have : i + 1 - 1 = i := by omega
        rw [this] at hlt
        omega
  case tail =>
    rintro st1 ⟨hK1, hD1⟩
    refine wpS_bind (wpS_lift (wpAny_rule ⟨rfl, ?_⟩))
    refine wpS_bind (wpS_mono (wpS_forRange (I := fun x c st' => ∃ neq, c = (none, x, neq) ∧ x ≤ nrem ∧ Kp a₀ k0 lo st1 st' ∧ Dn r (arrOf st') lo (lo + x) ∧ neq + 1 ≤ x ∧ ∀ i, lo + x - (neq + 1) ≤ i → i < lo + x → Rk r (arrOf st') i = Rk r (arrOf st') (lo + x - 1))
      (Q := fun c st' => ∃ m neq, c = (none, m, neq) ∧ n + 1 ≤ m ∧ m ≤ nrem ∧ Kp a₀ k0 lo st1 st' ∧ Dn r (arrOf st') lo (lo + m) ∧ neq + 1 ≤ m ∧ ∀ i, lo + m - (neq + 1) ≤ i → i < lo + m → Rk r (arrOf st') i = Rk r (arrOf st') (lo + m - 1)) ?_ ?_ ⟨0, rfl, by omega, Kp.refl hK1.base, hD1, by omega, fun i g1 g2 => by congr 1; omega⟩) ?_)
    · rintro x c st2 hx1 hx2 ⟨neq, rfl, hx, hK2, hD2, hq, he⟩
      have hsz : lo + x ≤ (arrOf st2).size := by rw [hK2.base.size]; omega
      dsimp only
      refine wpS_bind (wpS_ltAt hc hK2.base (by omega) (by omega) ?_)
      dsimp only
      by_cases hl2 : Rk r (arrOf st2) (lo + x) < Rk r (arrOf st2) (lo + x - 1)
      · rw [decide_eq_true hl2, if_pos rfl]
        by_cases hneq : neq > 0
        · rw [if_pos hneq]
          refine wpS_bind (wpS_modify (wpS_pure ⟨0, rfl, by omega, hK2.trans (Kp.mirror hK2.base (by omega) (by omega)), ?_, by omega, fun i g1 g2 => by congr 1; omega⟩))
          have hR : ∀ k, Rk r (mirror (arrOf st2) (lo + x - (neq + 1)) (lo + x) ((lo + x - (lo + x - (neq + 1))) / 2)) k = Rk r (arrOf st2) k := fun k => by
            rw [Rk_mirror hsz]
            split
            · rw [he _ (by omega) (by omega), he k (by omega) (by omega)]
            · rfl
          intro i j g1 g2 g3
          show Rk r (mirror (arrOf st2) _ _ _) j ≤ Rk r (mirror (arrOf st2) _ _ _) i
          rw [hR, hR]
          exact dn_step (b := lo + x) hD2 (by omega) (by omega) i j g1 g2 g3
        · rw [if_neg hneq]
          exact wpS_pure ⟨0, rfl, by omega, hK2, dn_step (b := lo + x) hD2 (by omega) (by omega), by omega, fun i g1 g2 => by congr 1; omega⟩
      · rw [decide_eq_false hl2, if_neg (by decide)]
        refine wpS_bind (wpS_ltAt hc hK2.base (by omega) (by omega) ?_)
        dsimp only
        by_cases hl3 : Rk r (arrOf st2) (lo + x - 1) < Rk r (arrOf st2) (lo + x)
        · rw [decide_eq_true hl3, if_pos rfl]
          exact wpS_pure ⟨x, neq, rfl, hx1, hx, hK2, hD2, hq, he⟩
        · rw [decide_eq_false hl3, if_neg (by decide)]
          refine wpS_pure ⟨neq + 1, rfl, by omega, hK2, dn_step (b := lo + x) hD2 (by omega) (by omega), by omega, fun i g1 g2 => ?_⟩
          have e : lo + (x + 1) - 1 = lo + x := by omega
          rw [e]
          by_cases hi : i = lo + x
          · subst hi; rfl
          · rw [he i (by omega) (by omega)]; omega
    · rintro c st2 ⟨neq, rfl, hx, hK2, hD2, hq, he⟩
      have e : max (n + 1) nrem = nrem := by omega
      rw [e] at hD2 hq he ⊢
      exact ⟨nrem, neq, rfl, by omega, Nat.le_refl _, hK2, hD2, hq, he⟩
    rintro c st2 ⟨m, neq, rfl, hm1, hm2, hK2, hD2, hq, he⟩
    dsimp only
    have hsz : lo + m ≤ (arrOf st2).size := by rw [hK2.base.size]; omega
    refine split_tail2 (P := fun st3 => Kp a₀ k0 lo st1 st3 ∧ Dn r (arrOf st3) lo (lo + m)) ?_ ?_
    · rintro st3 ⟨hK3, hD3⟩
      have hsz3 : lo + m ≤ (arrOf st3).size := by rw [hK3.base.size]; omega
      have hK4 := Kp.mirror (lo := lo) (i := lo) (j := lo + m) hK3.base (Nat.le_refl _) (by omega)
      refine wpS_bind (wpS_modify ?_)
      refine wpS_bind (wpS_mono (wpS_forRange (I := fun x c st' => st' = PyProof.Rows.setArr st3 (mirror (arrOf st3) lo (lo + m) ((lo + m - lo) / 2)) ∧ c = (none, x) ∧ x ≤ nrem ∧ Up r (mirror (arrOf st3) lo (lo + m) ((lo + m - lo) / 2)) lo (lo + x))
        (Q := fun c st' => st' = PyProof.Rows.setArr st3 (mirror (arrOf st3) lo (lo + m) ((lo + m - lo) / 2)) ∧ ∃ n, c = (none, n) ∧ 1 ≤ n ∧ n ≤ nrem ∧ Up r (mirror (arrOf st3) lo (lo + m) ((lo + m - lo) / 2)) lo (lo + n)) ?_ ?_ ⟨rfl, rfl, hm2, ?_⟩) ?_)
      · rintro x c st' hx1 hx2 ⟨rfl, rfl, hx, hU⟩
        refine wpS_bind (wpS_ltAt hc hK4.base (by omega) (by omega) ?_)
        dsimp only
        by_cases hlt : Rk r (mirror (arrOf st3) lo (lo + m) ((lo + m - lo) / 2)) (lo + x) < Rk r (mirror (arrOf st3) lo (lo + m) ((lo + m - lo) / 2)) (lo + x - 1)
        · rw [decide_eq_true hlt, if_pos rfl]
          exact wpS_pure ⟨rfl, x, rfl, by omega, hx, hU⟩
        · rw [decide_eq_false hlt, if_neg (by decide)]
          exact wpS_pure ⟨rfl, rfl, by omega, up_step (b := lo + x) hU (by omega) (by omega)⟩
      · rintro c st' ⟨rfl, rfl, hx, hU⟩
        have e : max m nrem = nrem := by omega
        rw [e] at hU ⊢
        exact ⟨rfl, nrem, rfl, h1, Nat.le_refl _, hU⟩
      · intro i j g1 g2 g3
        rw [Rk_mirror hsz3, Rk_mirror hsz3, if_pos (by omega), if_pos (by omega)]
        exact hD3 _ _ (by omega) (by omega) (by omega)
      · rintro c st' ⟨rfl, n', rfl, hn1', hn2', hU'⟩
        exact wpS_pure (h n' _ hn1' hn2' (hK1.trans (hK3.trans hK4)) hU')
    · intro tail
      by_cases hneq : neq > 0
      · rw [if_pos hneq]
        refine wpS_bind (wpS_modify (tail _ ⟨hK2.trans (Kp.mirror hK2.base (by omega) (by omega)), ?_⟩))
        have hR : ∀ k, Rk r (mirror (arrOf st2) (lo + m - (neq + 1)) (lo + m) ((lo + m - (lo + m - (neq + 1))) / 2)) k = Rk r (arrOf st2) k := fun k => by
          rw [Rk_mirror hsz]
          split
          · rw [he _ (by omega) (by omega), he k (by omega) (by omega)]
          · rfl
        intro i j g1 g2 g3
        show Rk r (mirror (arrOf st2) _ _ _) j ≤ Rk r (mirror (arrOf st2) _ _ _) i
        rw [hR, hR]
        exact hD2 i j g1 g2 g3
      · rw [if_neg hneq]
        exact tail _ ⟨hK2, hD2⟩
end TS
namespace TS
open PySem PyProof.Rows
variable {prog : Program} {w : World} {A : Around} {E : Value → Shared → Prop} {s : Shared} {a₀ : Array Keyed} {r : Keyed → Nat} {k0 : SortKind}
theorem Rk_bubble {xs : Array Keyed} {src d : Nat} (hs : src < xs.size) (hd : d ≤ src) (k : Nat) : Rk r (bubble xs src d) k = if k = src - d then Rk r xs src else if src - d < k ∧ k ≤ src then Rk r xs (k - 1) else Rk r xs k := by
  have e := getElem?_bubble hs d hd k
  by_cases h1 : k = src - d
  · rw [if_pos h1] at e ⊢; exact Rk_congr e
  · rw [if_neg h1] at e ⊢
    by_cases h2 : src - d < k ∧ k ≤ src
    · rw [if_pos h2] at e ⊢; exact Rk_congr e
    · rw [if_neg h2] at e ⊢; exact Rk_congr e
theorem wpS_binarySort (hc : CmpOk prog w A s a₀ r k0) {st : SortSt} (hB : SB a₀ k0 st) {lo n ok : Nat} (h2 : lo + n ≤ a₀.size) (hok : ok ≤ n) (hU : Up r (arrOf st) lo (lo + ok)) {Q : Bool → SortSt → Prop}
    (h : ∀ st', Kp a₀ k0 lo st st' → Up r (arrOf st') lo (lo + n) → Q true st') : wpS (model prog w) A E s (binarySort' lo n ok) Q st := by
  unfold binarySort'
  refine wpS_bind (wpS_mono (wpS_forRange (I := fun k c st' => c = (none, ()) ∧ Kp a₀ k0 lo st st' ∧ Up r (arrOf st') lo (lo + min k n))
    (Q := fun c st' => c = (none, ()) ∧ Kp a₀ k0 lo st st' ∧ Up r (arrOf st') lo (lo + n)) ?_ ?_ ⟨rfl, Kp.refl hB, ?_⟩) ?_)
  · rintro k c st1 hk1 hk2 ⟨rfl, hK, hU1⟩
    have e : min k n = k := by omega
    rw [e] at hU1
    have hsz : lo + k < (arrOf st1).size := by rw [hK.base.size]; omega
    dsimp only
    refine wpS_bind (wpS_mono (wpS_forRange (I := fun x c st' => st' = st1 ∧ ∃ l u, c = (none, l, u) ∧ l ≤ u ∧ u ≤ k ∧ u - l ≤ k - x ∧ (∀ i, i < l → Rk r (arrOf st1) (lo + i) ≤ Rk r (arrOf st1) (lo + k)) ∧ ∀ i, u ≤ i → i < k → Rk r (arrOf st1) (lo + k) < Rk r (arrOf st1) (lo + i))
      (Q := fun c st' => st' = st1 ∧ ∃ l u, c = (none, l, u) ∧ l ≤ k ∧ (∀ i, i < l → Rk r (arrOf st1) (lo + i) ≤ Rk r (arrOf st1) (lo + k)) ∧ ∀ i, l ≤ i → i < k → Rk r (arrOf st1) (lo + k) < Rk r (arrOf st1) (lo + i)) ?_ ?_ ⟨rfl, 0, k, rfl, by omega, by omega, by omega, fun i hi => by omega, fun i g1 g2 => by omega⟩) ?_)
    · rintro x c st2 hx1 hx2 ⟨rfl, l, u, rfl, g1, g2, g3, g4, g5⟩
      dsimp only
      by_cases hge : l ≥ u
      · rw [if_pos hge]
        exact wpS_pure ⟨rfl, l, u, rfl, by omega, g4, fun i q1 q2 => g5 i (by omega) q2⟩
      · rw [if_neg hge]
        refine wpS_bind (wpS_ltAt hc hK.base (by omega) (by omega) ?_)
        dsimp only
        by_cases hl : Rk r (arrOf st2) (lo + k) < Rk r (arrOf st2) (lo + (l + u) / 2)
        · rw [decide_eq_true hl, if_pos rfl]
          refine wpS_pure ⟨rfl, l, (l + u) / 2, rfl, by omega, by omega, by omega, g4, fun i q1 q2 => ?_⟩
          have := hU1 (lo + (l + u) / 2) (lo + i) (by omega) (by omega) (by omega)
          omega
        · rw [decide_eq_false hl, if_neg (by decide)]
          refine wpS_pure ⟨rfl, (l + u) / 2 + 1, u, rfl, by omega, by omega, by omega, fun i q1 => ?_, g5⟩
          have := hU1 (lo + i) (lo + (l + u) / 2) (by omega) (by omega) (by omega)
          omega
    · rintro c st2 ⟨rfl, l, u, rfl, g1, g2, g3, g4, g5⟩
      exact ⟨rfl, l, u, rfl, by omega, g4, fun i q1 q2 => g5 i (by omega) q2⟩
    · rintro c st2 ⟨rfl, l, u, rfl, g1, g2, g3⟩
      dsimp only
      refine wpS_bind (wpS_modify (wpS_pure ⟨rfl, hK.trans ⟨hK.base.setArr (bubble_perm _ (lo + k) (lo + k - (lo + l))), rfl, fun q hq => ?_⟩, ?_⟩))
      · show (bubble (arrOf st2) (lo + k) (lo + k - (lo + l)))[q]? = _
        rw [getElem?_bubble hsz _ (by omega), if_neg (by omega), if_neg (by omega)]
      · have e1 : min (k + 1) n = k + 1 := by omega
        rw [e1]
        intro i j q1 q2 q3
        show Rk r (bubble (arrOf st2) (lo + k) (lo + k - (lo + l))) i ≤ Rk r (bubble (arrOf st2) (lo + k) (lo + k - (lo + l))) j
        rw [Rk_bubble hsz (by omega), Rk_bubble hsz (by omega), show lo + k - (lo + k - (lo + l)) = lo + l by omega]
        have a1 : ∀ i, lo ≤ i → i < lo + l → Rk r (arrOf st2) i ≤ Rk r (arrOf st2) (lo + k) := fun i z1 z2 => by
          have := g2 (i - lo) (by omega)
          rwa [show lo + (i - lo) = i by omega] at this
        have a2 : ∀ i, lo + l ≤ i → i < lo + k → Rk r (arrOf st2) (lo + k) < Rk r (arrOf st2) i := fun i z1 z2 => by
          have := g3 (i - lo) (by omega) (by omega)
          rwa [show lo + (i - lo) = i by omega] at this
        repeat' split
        all_goals first
          | (exfalso; omega)
          | exact Nat.le_refl _
          | exact Nat.le_of_lt (a2 _ (by omega) (by omega))
          | exact a1 _ (by omega) (by omega)
          | exact hU1 _ _ (by omega) (by omega) (by omega)
  · rintro c st1 ⟨rfl, hK, hU1⟩
    refine ⟨rfl, hK, ?_⟩
    have e : min (max (max ok 1) n) n = n := by omega
    rwa [e] at hU1
  · intro i j g1 g2 g3
    by_cases h0 : ok = 0
    · obtain rfl : i = j := by omega
      exact Nat.le_refl _
    · exact hU i j g1 g2 (by omega)
  · rintro c st1 ⟨rfl, hK, hU1⟩
    exact wpS_pure (h st1 hK hU1)
noncomputable def Bf (r : Keyed → Nat) (left : Bool) (key : Keyed) (xs : Array Keyed) (i : Nat) : Bool := if left then decide (Rk r xs i < r key) else !decide (r key < Rk r xs i)
theorem Bf_mono {left : Bool} {key : Keyed} {xs : Array Keyed} {a b i j : Nat} (hU : Up r xs a b) (h1 : a ≤ i) (h2 : i ≤ j) (h3 : j < b) (h : Bf r left key xs j = true) : Bf r left key xs i = true := by
  have := hU i j h1 h2 h3
  unfold Bf at *
  cases left
  · simp at *; omega
  · simp at *; omega
theorem wpS_gallop (hc : CmpOk prog w A s a₀ r k0) {st : SortSt} (hB : SB a₀ k0 st) {left : Bool} {key : Keyed} {xs : Array Keyed} {base n hint : Nat} (hk : key ∈ a₀.toList) (hx : ∀ p ∈ xs.toList, p ∈ a₀.toList) (hsz : base + n ≤ xs.size) (hh : hint < n) (hU : Up r xs base (base + n))
    {Q : Option Nat → SortSt → Prop} (h : ∀ k, k ≤ n → (∀ i, i < k → Bf r left key xs (base + i) = true) → (∀ i, k ≤ i → i < n → Bf r left key xs (base + i) = false) → Q (some k) st) : wpS (model prog w) A E s (gallop' left key xs base n hint) Q st := by
  have beyond : ∀ (i : Nat) (Q : Option Bool → SortSt → Prop), i < n → Q (some (Bf r left key xs (base + i))) st → wpS (model prog w) A E s (do
      let x ← elem' xs (base + i)
      if left then lt' x key else return (← lt' key x).map (!·)) Q st := by
    intro i Q hi hQ
    have e : xs[base + i]? = some (xs[base + i]'(by omega)) := getElem?_pos _ _ (by omega)
    have hm : (xs[base + i]'(by omega)) ∈ a₀.toList := hx _ (Array.mem_toList_iff.mpr (Array.mem_of_getElem? e))
    refine wpS_bind (wpS_elem e ?_)
    unfold Bf at hQ
    rw [Rk_eq e] at hQ
    cases left with
    | true =>
      rw [if_pos rfl] at hQ ⊢
      exact wpS_lt hc hB hm hk hQ
    | false =>
      rw [if_neg (by decide)] at hQ ⊢
      exact wpS_bind (wpS_lt hc hB hk hm (wpS_pure hQ))
  have mono : ∀ i j, i ≤ j → j < n → Bf r left key xs (base + j) = true → Bf r left key xs (base + i) = true := fun i j g1 g2 g3 => Bf_mono hU (by omega) (by omega) (by omega) g3
  have monoF : ∀ i j, i ≤ j → j < n → Bf r left key xs (base + i) = false → Bf r left key xs (base + j) = false := fun i j g1 g2 g3 => by
    cases e : Bf r left key xs (base + j) with
    | false => rfl
    | true => rw [mono i j g1 g2 e] at g3; cases g3
  unfold gallop'
  refine wpS_bind (beyond hint _ hh ?_)
  dsimp only
  cases hr : Bf r left key xs (base + hint) with
  | true =>
    rw [if_pos rfl]
    refine wpS_bind (wpS_mono (wpS_forRange (I := fun x c st' => st' = st ∧ ∃ la o, c = (none, la, o) ∧ la < o ∧ x + 1 ≤ o ∧ la < n - hint ∧ Bf r left key xs (base + (hint + la)) = true)
      (Q := fun c st' => st' = st ∧ ∃ la o, c = (none, la, o) ∧ la < o ∧ la < n - hint ∧ Bf r left key xs (base + (hint + la)) = true ∧ (n - hint ≤ o ∨ Bf r left key xs (base + (hint + o)) = false)) ?_ ?_ ⟨rfl, 0, 1, rfl, by omega, by omega, by omega, hr⟩) ?_)
    · rintro x c st' hx1 hx2 ⟨rfl, la, o, rfl, g1, g2, g3, g4⟩
      dsimp only
      by_cases hge : o ≥ n - hint
      · rw [if_pos hge]
        exact wpS_pure ⟨rfl, la, o, rfl, g1, g3, g4, .inl hge⟩
      · rw [if_neg hge]
        refine wpS_bind (beyond (hint + o) _ (by omega) ?_)
        dsimp only
        cases hb : Bf r left key xs (base + (hint + o)) with
        | true =>
          rw [if_neg (by decide)]
          exact wpS_pure ⟨rfl, o, 2 * o + 1, rfl, by omega, by omega, by omega, hb⟩
        | false =>
          rw [if_pos (by decide)]
          exact wpS_pure ⟨rfl, la, o, rfl, g1, g3, g4, .inr hb⟩
    · rintro c st' ⟨rfl, la, o, rfl, g1, g2, g3, g4⟩
      exact ⟨rfl, la, o, rfl, g1, g3, g4, .inl (by omega)⟩
    rintro c st' ⟨rfl, la, o, rfl, g1, g3, g4, g5⟩
    dsimp only
    have t1 : ∀ i, i < hint + la + 1 → Bf r left key xs (base + i) = true := fun i hi => mono i (hint + la) (by omega) (by omega) g4
    have t2 : ∀ i, hint + min o (n - hint) ≤ i → i < n → Bf r left key xs (base + i) = false := fun i q1 q2 => by
      rcases g5 with z | z
      · omega
      · exact monoF (hint + o) i (by omega) q2 z
    refine wpS_bind (wpS_mono (wpS_forRange (I := fun x c st1 => st1 = st' ∧ ∃ l u, c = (none, l, u) ∧ l ≤ u ∧ u ≤ n ∧ u - l ≤ n - x ∧ (∀ i, i < l → Bf r left key xs (base + i) = true) ∧ ∀ i, u ≤ i → i < n → Bf r left key xs (base + i) = false)
      (Q := fun c st1 => st1 = st' ∧ ∃ l u, c = (none, l, u) ∧ u ≤ n ∧ (∀ i, i < u → Bf r left key xs (base + i) = true) ∧ ∀ i, u ≤ i → i < n → Bf r left key xs (base + i) = false) ?_ ?_ ⟨rfl, _, _, rfl, by omega, by omega, by omega, t1, t2⟩) ?_)
    · rintro x c st1 hx1 hx2 ⟨rfl, l, u, rfl, q1, q2, q3, q4, q5⟩
      dsimp only
      by_cases hge : l ≥ u
      · rw [if_pos hge]
        exact wpS_pure ⟨rfl, l, u, rfl, q2, fun i hi => q4 i (by omega), q5⟩
      · rw [if_neg hge]
        refine wpS_bind (beyond (l + (u - l) / 2) _ (by omega) ?_)
        dsimp only
        cases hb : Bf r left key xs (base + (l + (u - l) / 2)) with
        | true =>
          rw [if_pos rfl]
          exact wpS_pure ⟨rfl, _, _, rfl, by omega, by omega, by omega, fun i hi => mono i (l + (u - l) / 2) (by omega) (by omega) hb, q5⟩
        | false =>
          rw [if_neg (by decide)]
          exact wpS_pure ⟨rfl, _, _, rfl, by omega, by omega, by omega, q4, fun i z1 z2 => monoF (l + (u - l) / 2) i z1 z2 hb⟩
    · rintro c st1 ⟨rfl, l, u, rfl, q1, q2, q3, q4, q5⟩
      exact ⟨rfl, l, u, rfl, q2, fun i hi => q4 i (by omega), q5⟩
    · rintro c st1 ⟨rfl, l, u, rfl, q2, q4, q5⟩
      exact wpS_pure (h u q2 q4 q5)
  | false =>
    rw [if_neg (by decide)]
    refine wpS_bind (wpS_mono (wpS_forRange (I := fun x c st' => st' = st ∧ ∃ la o, c = (none, la, o) ∧ la < o ∧ x + 1 ≤ o ∧ la < hint + 1 ∧ Bf r left key xs (base + (hint - la)) = false)
      (Q := fun c st' => st' = st ∧ ∃ la o, c = (none, la, o) ∧ la < o ∧ la < hint + 1 ∧ Bf r left key xs (base + (hint - la)) = false ∧ (hint + 1 ≤ o ∨ Bf r left key xs (base + (hint - o)) = true)) ?_ ?_ ⟨rfl, 0, 1, rfl, by omega, by omega, by omega, hr⟩) ?_)
    · rintro x c st' hx1 hx2 ⟨rfl, la, o, rfl, g1, g2, g3, g4⟩
      dsimp only
      by_cases hge : o ≥ hint + 1
      · rw [if_pos hge]
        exact wpS_pure ⟨rfl, la, o, rfl, g1, g3, g4, .inl hge⟩
      · rw [if_neg hge]
        refine wpS_bind (beyond (hint - o) _ (by omega) ?_)
        dsimp only
        cases hb : Bf r left key xs (base + (hint - o)) with
        | true =>
          rw [if_pos rfl]
          exact wpS_pure ⟨rfl, la, o, rfl, g1, g3, g4, .inr hb⟩
        | false =>
          rw [if_neg (by decide)]
          exact wpS_pure ⟨rfl, o, 2 * o + 1, rfl, by omega, by omega, by omega, hb⟩
    · rintro c st' ⟨rfl, la, o, rfl, g1, g2, g3, g4⟩
      exact ⟨rfl, la, o, rfl, g1, g3, g4, .inl (by omega)⟩
    rintro c st' ⟨rfl, la, o, rfl, g1, g3, g4, g5⟩
    dsimp only
    have t1 : ∀ i, i < hint + 1 - min o (hint + 1) → Bf r left key xs (base + i) = true := fun i hi => by
      rcases g5 with z | z
      · omega
      · exact mono i (hint - o) (by omega) (by omega) z
    have t2 : ∀ i, hint - la ≤ i → i < n → Bf r left key xs (base + i) = false := fun i q1 q2 => monoF (hint - la) i q1 q2 g4
    refine wpS_bind (wpS_mono (wpS_forRange (I := fun x c st1 => st1 = st' ∧ ∃ l u, c = (none, l, u) ∧ l ≤ u ∧ u ≤ n ∧ u - l ≤ n - x ∧ (∀ i, i < l → Bf r left key xs (base + i) = true) ∧ ∀ i, u ≤ i → i < n → Bf r left key xs (base + i) = false)
      (Q := fun c st1 => st1 = st' ∧ ∃ l u, c = (none, l, u) ∧ u ≤ n ∧ (∀ i, i < u → Bf r left key xs (base + i) = true) ∧ ∀ i, u ≤ i → i < n → Bf r left key xs (base + i) = false) ?_ ?_ ⟨rfl, _, _, rfl, by omega, by omega, by omega, t1, t2⟩) ?_)
    · rintro x c st1 hx1 hx2 ⟨rfl, l, u, rfl, q1, q2, q3, q4, q5⟩
      dsimp only
      by_cases hge : l ≥ u
      · rw [if_pos hge]
        exact wpS_pure ⟨rfl, l, u, rfl, q2, fun i hi => q4 i (by omega), q5⟩
      · rw [if_neg hge]
        refine wpS_bind (beyond (l + (u - l) / 2) _ (by omega) ?_)
        dsimp only
        cases hb : Bf r left key xs (base + (l + (u - l) / 2)) with
        | true =>
          rw [if_pos rfl]
          exact wpS_pure ⟨rfl, _, _, rfl, by omega, by omega, by omega, fun i hi => mono i (l + (u - l) / 2) (by omega) (by omega) hb, q5⟩
        | false =>
          rw [if_neg (by decide)]
          exact wpS_pure ⟨rfl, _, _, rfl, by omega, by omega, by omega, q4, fun i z1 z2 => monoF (l + (u - l) / 2) i z1 z2 hb⟩
    · rintro c st1 ⟨rfl, l, u, rfl, q1, q2, q3, q4, q5⟩
      exact ⟨rfl, l, u, rfl, q2, fun i hi => q4 i (by omega), q5⟩
    · rintro c st1 ⟨rfl, l, u, rfl, q2, q4, q5⟩
      exact wpS_pure (h u q2 q4 q5)
end TS
namespace TS
open PySem PyProof.Rows
variable {prog : Program} {w : World} {A : Around} {E : Value → Shared → Prop} {s : Shared} {a₀ : Array Keyed} {r : Keyed → Nat} {k0 : SortKind}
noncomputable def le (r : Keyed → Nat) (x y : Keyed) : Prop := r x ≤ r y
noncomputable abbrev Srt (r : Keyed → Nat) (l : List Keyed) : Prop := l.Pairwise (le r)
theorem Rk_list {xs : Array Keyed} {i : Nat} {p : Keyed} (h : xs.toList[i]? = some p) : Rk r xs i = r p := Rk_eq (by rw [← Array.getElem?_toList]; exact h)
theorem up_of {xs : Array Keyed} {base n : Nat} (hsz : base + n ≤ xs.size) (h : Srt r ((xs.toList.drop base).take n)) : Up r xs base (base + n) := by
  intro i j g1 g2 g3
  by_cases e : i = j
  · subst e; exact Nat.le_refl _
  have hl : xs.toList.length = xs.size := Array.length_toList
  have hi : ((xs.toList.drop base).take n)[i - base]? = some (xs.toList[i]'(by omega)) := by
    rw [List.getElem?_take, if_pos (by omega), List.getElem?_drop, show base + (i - base) = i by omega, List.getElem?_eq_getElem]
  have hj : ((xs.toList.drop base).take n)[j - base]? = some (xs.toList[j]'(by omega)) := by
    rw [List.getElem?_take, if_pos (by omega), List.getElem?_drop, show base + (j - base) = j by omega, List.getElem?_eq_getElem]
  obtain ⟨hi1, hi2⟩ := List.getElem?_eq_some_iff.mp hi
  obtain ⟨hj1, hj2⟩ := List.getElem?_eq_some_iff.mp hj
  have := List.pairwise_iff_getElem.mp h (i - base) (j - base) hi1 hj1 (by omega)
  rw [hi2, hj2] at this
  rw [Rk_list (List.getElem?_eq_getElem (show i < xs.toList.length by omega)), Rk_list (List.getElem?_eq_getElem (show j < xs.toList.length by omega))]
  exact this
theorem wpS_gallopR (hc : CmpOk prog w A s a₀ r k0) {st : SortSt} (hB : SB a₀ k0 st) {key : Keyed} {xs : Array Keyed} {base n hint : Nat} (hk : key ∈ a₀.toList) (hx : ∀ p ∈ xs.toList, p ∈ a₀.toList) (hsz : base + n ≤ xs.size) (hh : hint < n) (hS : Srt r ((xs.toList.drop base).take n))
    {Q : Option Nat → SortSt → Prop} (h : ∀ k, k ≤ n → (∀ c ∈ (xs.toList.drop base).take k, r c ≤ r key) → (∀ c ∈ ((xs.toList.drop base).take n).drop k, r key < r c) → Q (some k) st) : wpS (model prog w) A E s (gallop' false key xs base n hint) Q st := by
  refine wpS_gallop hc hB hk hx hsz hh (up_of hsz hS) fun k hk' h1 h2 => h k hk' (fun c hcm => ?_) fun c hcm => ?_
  · obtain ⟨i, hi⟩ := List.mem_iff_getElem?.mp hcm
    rw [List.getElem?_take] at hi
    split at hi
    · rename_i hlt
      rw [List.getElem?_drop] at hi
      have := h1 i hlt
      unfold Bf at this
      rw [Rk_list hi] at this
      simp at this
      exact this
    · cases hi
  · obtain ⟨i, hi⟩ := List.mem_iff_getElem?.mp hcm
    rw [List.getElem?_drop, List.getElem?_take] at hi
    split at hi
    · rename_i hlt
      rw [List.getElem?_drop] at hi
      have := h2 (k + i) (by omega) hlt
      unfold Bf at this
      rw [Rk_list hi] at this
      simp at this
      exact this
    · cases hi
theorem wpS_gallopL (hc : CmpOk prog w A s a₀ r k0) {st : SortSt} (hB : SB a₀ k0 st) {key : Keyed} {xs : Array Keyed} {base n hint : Nat} (hk : key ∈ a₀.toList) (hx : ∀ p ∈ xs.toList, p ∈ a₀.toList) (hsz : base + n ≤ xs.size) (hh : hint < n) (hS : Srt r ((xs.toList.drop base).take n))
    {Q : Option Nat → SortSt → Prop} (h : ∀ k, k ≤ n → (∀ c ∈ (xs.toList.drop base).take k, r c < r key) → (∀ c ∈ ((xs.toList.drop base).take n).drop k, r key ≤ r c) → Q (some k) st) : wpS (model prog w) A E s (gallop' true key xs base n hint) Q st := by
  refine wpS_gallop hc hB hk hx hsz hh (up_of hsz hS) fun k hk' h1 h2 => h k hk' (fun c hcm => ?_) fun c hcm => ?_
  · obtain ⟨i, hi⟩ := List.mem_iff_getElem?.mp hcm
    rw [List.getElem?_take] at hi
    split at hi
    · rename_i hlt
      rw [List.getElem?_drop] at hi
      have := h1 i hlt
      unfold Bf at this
      rw [Rk_list hi] at this
      simpa using this
    · cases hi
  · obtain ⟨i, hi⟩ := List.mem_iff_getElem?.mp hcm
    rw [List.getElem?_drop, List.getElem?_take] at hi
    split at hi
    · rename_i hlt
      rw [List.getElem?_drop] at hi
      have := h2 (k + i) (by omega) hlt
      unfold Bf at this
      rw [Rk_list hi] at this
      simpa using this
    · cases hi
theorem push_mid {out C LA LB : List Keyed} (h1 : Srt r (out ++ LA)) (h2 : Srt r (out ++ (C ++ LB))) (h3 : ∀ c ∈ C, ∀ y ∈ LA, r c ≤ r y) : Srt r ((out ++ C) ++ LA) ∧ Srt r ((out ++ C) ++ LB) := by
  constructor
  · rw [List.append_assoc]
    obtain ⟨a1, a2, a3⟩ := List.pairwise_append.mp h1
    obtain ⟨b1, b2, b3⟩ := List.pairwise_append.mp h2
    obtain ⟨c1, c2, c3⟩ := List.pairwise_append.mp b2
    refine List.pairwise_append.mpr ⟨a1, List.pairwise_append.mpr ⟨c1, a2, h3⟩, fun x hx y hy => ?_⟩
    rcases List.mem_append.mp hy with hy | hy
    · exact b3 x hx y (List.mem_append_left _ hy)
    · exact a3 x hx y hy
  · rw [List.append_assoc]; exact h2
structure ML (r : Keyed → Nat) (la lb out : List Keyed) (ia ib : Nat) : Prop where
  perm : out.Perm (la.take ia ++ lb.take ib)
  sa : Srt r (out ++ la.drop ia)
  sb : Srt r (out ++ lb.drop ib)
theorem ML.pushB {la lb out : List Keyed} {ia ib k : Nat} (h : ML r la lb out ia ib) (hle : ∀ c ∈ (lb.drop ib).take k, ∀ y ∈ la.drop ia, r c ≤ r y) : ML r la lb (out ++ (lb.drop ib).take k) ia (ib + k) := by
  have e : (lb.drop ib).take k ++ lb.drop (ib + k) = lb.drop ib := by rw [← List.drop_drop, List.take_append_drop]
  obtain ⟨p1, p2⟩ := push_mid (C := (lb.drop ib).take k) (LB := lb.drop (ib + k)) h.sa (by rw [e]; exact h.sb) hle
  refine ⟨?_, p1, p2⟩
  rw [List.take_add, ← List.append_assoc]
  exact h.perm.append_right _
theorem ML.pushA {la lb out : List Keyed} {ia ib k : Nat} (h : ML r la lb out ia ib) (hle : ∀ c ∈ (la.drop ia).take k, ∀ y ∈ lb.drop ib, r c ≤ r y) : ML r la lb (out ++ (la.drop ia).take k) (ia + k) ib := by
  have e : (la.drop ia).take k ++ la.drop (ia + k) = la.drop ia := by rw [← List.drop_drop, List.take_append_drop]
  obtain ⟨p1, p2⟩ := push_mid (C := (la.drop ia).take k) (LB := la.drop (ia + k)) h.sb (by rw [e]; exact h.sa) hle
  refine ⟨?_, p2, p1⟩
  rw [List.take_add, List.append_assoc]
  refine (h.perm.append_right _).trans ?_
  rw [List.append_assoc]
  exact List.Perm.append_left _ List.perm_append_comm
structure Mg (r : Keyed → Nat) (la lb out : List Keyed) : Prop where
  perm : out.Perm (la ++ lb)
  srt : Srt r out
theorem ML.doneB {la lb out : List Keyed} {ia ib : Nat} (h : ML r la lb out ia ib) (hb : lb.length ≤ ib) : Mg r la lb (out ++ la.drop ia ++ lb.drop ib) := by
  have e : lb.drop ib = [] := List.drop_eq_nil_of_le hb
  rw [e, List.append_nil]
  refine ⟨?_, h.sa⟩
  have := h.perm.append_right (la.drop ia)
  rw [List.take_of_length_le hb] at this
  refine this.trans ?_
  rw [List.append_assoc]
  refine (List.Perm.append_left _ List.perm_append_comm).trans ?_
  rw [← List.append_assoc, List.take_append_drop]
theorem ML.doneA {la lb out : List Keyed} {ia ib : Nat} (h : ML r la lb out ia ib) (ha : la.length ≤ ia) : Mg r la lb (out ++ la.drop ia ++ lb.drop ib) := by
  have e : la.drop ia = [] := List.drop_eq_nil_of_le ha
  rw [e, List.append_nil]
  refine ⟨?_, h.sb⟩
  have := h.perm.append_right (lb.drop ib)
  rw [List.take_of_length_le ha] at this
  refine this.trans ?_
  rw [List.append_assoc, List.take_append_drop]
theorem ML.lastA {la lb out : List Keyed} {ia ib : Nat} (h : ML r la lb out ia ib) (ha : ia + 1 = la.length) (hl : ∀ x, la[la.length - 1]? = some x → ∀ y ∈ lb, r y ≤ r x) : Mg r la lb (out ++ lb.drop ib ++ la.drop ia) := by
  have hd : ∀ x ∈ la.drop ia, ∀ y ∈ lb, r y ≤ r x := fun x hx => by
    obtain ⟨i, hi⟩ := List.mem_iff_getElem?.mp hx
    rw [List.getElem?_drop] at hi
    have := (List.getElem?_eq_some_iff.mp hi).1
    have e : ia + i = la.length - 1 := by omega
    rw [e] at hi
    exact hl x hi
  constructor
  · have := (h.perm.append_right (lb.drop ib)).append_right (la.drop ia)
    refine this.trans ?_
    rw [List.append_assoc, List.append_assoc, ← List.append_assoc (lb.take ib), List.take_append_drop]
    refine (List.Perm.append_left _ List.perm_append_comm).trans ?_
    rw [← List.append_assoc, List.take_append_drop]
  · obtain ⟨a1, a2, a3⟩ := List.pairwise_append.mp h.sa
    obtain ⟨b1, b2, b3⟩ := List.pairwise_append.mp h.sb
    refine List.pairwise_append.mpr ⟨h.sb, a2, fun x hx y hy => ?_⟩
    rcases List.mem_append.mp hx with hx | hx
    · exact a3 x hx y hy
    · exact hd y hy x (List.mem_of_mem_drop hx)
structure Gl (a₀ : Array Keyed) (k0 : SortKind) (st st' : SortSt) : Prop where
  base : SB a₀ k0 st'
  arr : arrOf st' = arrOf st
  pend : pendingOf st' = pendingOf st
theorem Gl.refl {st : SortSt} (h : SB a₀ k0 st) : Gl a₀ k0 st st := ⟨h, rfl, rfl⟩
theorem ext_drop (a : Array Keyed) (i : Nat) : (a.extract i).toList = a.toList.drop i := by
  simp [List.take_of_length_le]
theorem ext_take (a : Array Keyed) (i k : Nat) : (a.extract i (i + k)).toList = (a.toList.drop i).take k := by
  simp
theorem get_of {a : Array Keyed} {i : Nat} (h : i < a.size) : ∃ p, a[i]? = some p ∧ a.toList[i]? = some p ∧ p ∈ a.toList ∧ a.toList.drop i = p :: a.toList.drop (i + 1) := by
  have hl : i < a.toList.length := by rw [Array.length_toList]; exact h
  refine ⟨a.toList[i], ?_, List.getElem?_eq_getElem hl, List.getElem_mem hl, List.drop_eq_getElem_cons hl⟩
  rw [← Array.getElem?_toList]
  exact List.getElem?_eq_getElem hl
theorem srt_sfx {X Y : List Keyed} (h : Srt r (X ++ Y)) : Srt r Y := (List.pairwise_append.mp h).2.1
structure Hid (P : Prop) : Prop where
  h : P
theorem twoHid {P Q : Prop} (c : Hid P → Q) (k : P) : Q := c ⟨k⟩
theorem wpS_mergeLo (hc : CmpOk prog w A s a₀ r k0) {st : SortSt} (hB : SB a₀ k0 st) {a b : Array Keyed} (ha : ∀ p ∈ a.toList, p ∈ a₀.toList) (hb : ∀ p ∈ b.toList, p ∈ a₀.toList) (sa : Srt r a.toList) (sb : Srt r b.toList) (za : 1 ≤ a.size) (zb : 1 ≤ b.size)
    (hf : ∀ x y, a[0]? = some x → b[0]? = some y → r y ≤ r x) (hl : ∀ x, a.toList[a.toList.length - 1]? = some x → ∀ y ∈ b.toList, r y ≤ r x) {Q : Array Keyed → SortSt → Prop}
    (h : ∀ out st', Mg r a.toList b.toList out.toList → Gl a₀ k0 st st' → Q out st') : wpS (model prog w) A E s (mergeLo' a b) Q st := by
  unfold mergeLo'
  refine wpS_bind (wpS_lift (wpAny_rule ⟨rfl, ?_⟩))
  have hal : a.toList.length = a.size := Array.length_toList
  have hbl : b.toList.length = b.size := Array.length_toList
  obtain ⟨y0, hy0, hy1, hy2, hy3⟩ := get_of (a := b) (i := 0) (by omega)
  obtain ⟨x0, hx0, hx1, hx2, hx3⟩ := get_of (a := a) (i := 0) (by omega)
  rw [List.drop_zero] at hy3 hx3
  have ml0 : ML r a.toList b.toList (#[y0] : Array Keyed).toList 0 1 := by
    refine ⟨?_, ?_, ?_⟩
    · rw [hy3]; simp
    · show Srt r ([y0] ++ a.toList.drop 0)
      rw [List.drop_zero]
      refine List.pairwise_append.mpr ⟨List.pairwise_singleton _ _, sa, fun u hu v hv => ?_⟩
      rw [List.mem_singleton.mp hu]
      have h0 := hf x0 y0 hx0 hy0
      rw [hx3] at hv sa
      rcases List.mem_cons.mp hv with rfl | hv
      · exact h0
      · exact Nat.le_trans h0 ((List.pairwise_cons.mp sa).1 v hv)
    · show Srt r ([y0] ++ b.toList.drop 1)
      have : [y0] ++ b.toList.drop (0 + 1) = b.toList := hy3.symm
      rw [Nat.zero_add] at this
      rw [this]; exact sb
  refine wpS_bind (wpS_elem hy0 ?_)
  dsimp only
  have fin1 : ∀ {out : Array Keyed} {ia ib : Nat}, ML r a.toList b.toList out.toList ia ib → b.size ≤ ib → Mg r a.toList b.toList (out ++ a.extract ia ++ b.extract ib).toList := fun hm hb => by
    rw [Array.toList_append, Array.toList_append, ext_drop, ext_drop]; exact hm.doneB (by omega)
  have fin2 : ∀ {out : Array Keyed} {ia ib : Nat}, ML r a.toList b.toList out.toList ia ib → a.size ≤ ia → Mg r a.toList b.toList (out ++ a.extract ia ++ b.extract ib).toList := fun hm hb => by
    rw [Array.toList_append, Array.toList_append, ext_drop, ext_drop]; exact hm.doneA (by omega)
  have fin3 : ∀ {out : Array Keyed} {ia ib : Nat}, ML r a.toList b.toList out.toList ia ib → ia + 1 = a.size → Mg r a.toList b.toList (out ++ b.extract ib ++ a.extract ia).toList := fun hm hb => by
    rw [Array.toList_append, Array.toList_append, ext_drop, ext_drop]; exact hm.lastA (by omega) hl
  have pB : ∀ {out : Array Keyed} {ia ib : Nat} {p : Keyed}, ML r a.toList b.toList out.toList ia ib → b.toList.drop ib = p :: b.toList.drop (ib + 1) → (∀ y ∈ a.toList.drop ia, r p ≤ r y) → ML r a.toList b.toList (out.push p).toList ia (ib + 1) := fun {out ia ib p} hm hd hle => by
    have := hm.pushB (k := 1) (fun c hc y hy => by rw [hd] at hc; simp at hc; subst hc; exact hle y hy)
    rw [hd] at this
    rw [Array.toList_push]
    simpa using this
  have pA : ∀ {out : Array Keyed} {ia ib : Nat} {p : Keyed}, ML r a.toList b.toList out.toList ia ib → a.toList.drop ia = p :: a.toList.drop (ia + 1) → (∀ y ∈ b.toList.drop ib, r p ≤ r y) → ML r a.toList b.toList (out.push p).toList (ia + 1) ib := fun {out ia ib p} hm hd hle => by
    have := hm.pushA (k := 1) (fun c hc y hy => by rw [hd] at hc; simp at hc; subst hc; exact hle y hy)
    rw [hd] at this
    rw [Array.toList_push]
    simpa using this
  by_cases hb1 : 1 = b.size
  · rw [if_pos (by simpa using hb1)]
    exact wpS_pure (h _ _ (fin1 ml0 (by omega)) (Gl.refl hB))
  rw [if_neg (by simpa using hb1)]
  by_cases ha1 : 0 + 1 = a.size
  · rw [if_pos (by simpa using ha1)]
    exact wpS_pure (h _ _ (fin3 ml0 ha1) (Gl.refl hB))
  rw [if_neg (by simpa using ha1)]
  refine wpS_bind (wpS_get ?_)
  refine wpS_bind (wpS_mono (wpS_forRange (I := fun x c st' => ∃ out ia ib mg, c = (none, out, ia, ib, mg) ∧ Gl a₀ k0 st st' ∧ ML r a.toList b.toList out.toList ia ib ∧ ia + 1 < a.size ∧ ib < b.size ∧ x + 1 ≤ ia + ib)
    (Q := fun c st' => ∃ res rest, c = (some res, rest) ∧ Gl a₀ k0 st st' ∧ Mg r a.toList b.toList res.toList) ?_ ?_ ⟨_, _, _, _, rfl, Gl.refl hB, ml0, by omega, by omega, by omega⟩) ?_)
  rotate_left
  · rintro c st' ⟨out, ia, ib, mg, rfl, hG, hM, g1, g2, g3⟩
    omega
  · rintro c st' ⟨res, rest, rfl, hG, hM⟩
    exact wpS_pure (h res st' hM hG)
  rintro x c st1 _ _ ⟨out, ia, ib, mg, rfl, hG, hM, g1, g2, g3⟩
  dsimp only
  refine wpS_bind (wpS_mono (wpS_forRange (I := fun y c st' => ∃ out1 ia1 ib1 ac bc, c = (none, out1, ia1, ib1, ac, bc) ∧ Gl a₀ k0 st st' ∧ ML r a.toList b.toList out1.toList ia1 ib1 ∧ ia1 + 1 < a.size ∧ ib1 < b.size ∧ ia + ib + y ≤ ia1 + ib1)
    (Q := fun c st' => (∃ out1 ia1 ib1 ac bc, c = (none, out1, ia1, ib1, ac, bc) ∧ Gl a₀ k0 st st' ∧ ML r a.toList b.toList out1.toList ia1 ib1 ∧ ia1 + 1 < a.size ∧ ib1 < b.size ∧ ia + ib + 1 ≤ ia1 + ib1) ∨ ∃ res rest, c = (some res, rest) ∧ Gl a₀ k0 st st' ∧ Mg r a.toList b.toList res.toList) ?_ ?_ ⟨_, _, _, _, _, rfl, hG, hM, g1, g2, by omega⟩) ?_)
  · rintro y c st2 _ _ ⟨out1, ia1, ib1, ac, bc, rfl, hG1, hM1, q1, q2, q3⟩
    obtain ⟨u, hu0, hu1, hu2, hu3⟩ := get_of (a := b) (i := ib1) q2
    obtain ⟨v, hv0, hv1, hv2, hv3⟩ := get_of (a := a) (i := ia1) (by omega)
    dsimp only
    refine wpS_bind (wpS_elem hu0 (wpS_bind (wpS_elem hv0 (wpS_bind (wpS_lt hc hG1.base (hb u hu2) (ha v hv2) ?_)))))
    dsimp only
    have sva := srt_sfx hM1.sa
    have svb := srt_sfx hM1.sb
    rw [hv3] at sva
    rw [hu3] at svb
    by_cases hlt : r u < r v
    · rw [decide_eq_true hlt, if_pos rfl]
      refine wpS_bind (wpS_elem hu0 ?_)
      have hM2 := pB hM1 hu3 (fun z hz => by
        rw [hv3] at hz
        rcases List.mem_cons.mp hz with rfl | hz
        · omega
        · exact Nat.le_trans (Nat.le_of_lt hlt) ((List.pairwise_cons.mp sva).1 z hz))
      try dsimp only
      by_cases e1 : ib1 + 1 = b.size
      · rw [if_pos (by simpa using e1)]
        exact wpS_pure (.inr ⟨_, _, rfl, hG1, fin1 hM2 (by omega)⟩)
      · rw [if_neg (by simpa using e1)]
        by_cases e2 : bc + 1 ≥ mg
        · rw [if_pos e2]
          exact wpS_pure (.inl ⟨_, _, _, _, _, rfl, hG1, hM2, q1, by omega, by omega⟩)
        · rw [if_neg e2]
          exact wpS_pure ⟨_, _, _, _, _, rfl, hG1, hM2, q1, by omega, by omega⟩
    · rw [decide_eq_false hlt, if_neg (by decide)]
      refine wpS_bind (wpS_elem hv0 ?_)
      have hM2 := pA hM1 hv3 (fun z hz => by
        rw [hu3] at hz
        rcases List.mem_cons.mp hz with rfl | hz
        · omega
        · have := (List.pairwise_cons.mp svb).1 z hz
          unfold le at this
          omega)
      try dsimp only
      by_cases e1 : ia1 + 1 + 1 = a.size
      · rw [if_pos (by simpa using e1)]
        exact wpS_pure (.inr ⟨_, _, rfl, hG1, fin3 hM2 e1⟩)
      · rw [if_neg (by simpa using e1)]
        by_cases e2 : ac + 1 ≥ mg
        · rw [if_pos e2]
          exact wpS_pure (.inl ⟨_, _, _, _, _, rfl, hG1, hM2, by omega, q2, by omega⟩)
        · rw [if_neg e2]
          exact wpS_pure ⟨_, _, _, _, _, rfl, hG1, hM2, by omega, q2, by omega⟩
  · rintro c st' ⟨out1, ia1, ib1, ac, bc, rfl, hG1, hM1, q1, q2, q3⟩
    omega
  rintro c st2 (⟨out1, ia1, ib1, ac, bc, rfl, hG1, hM1, q1, q2, q3⟩ | ⟨res, rest, rfl, hG1, hM1⟩)
  rotate_left
  · dsimp only
    exact wpS_pure ⟨_, _, rfl, hG1, hM1⟩
  dsimp only
  refine wpS_bind (wpS_lift (wpAny_rule ⟨rfl, ?_⟩))
  refine wpS_bind (wpS_mono (wpS_forRange (I := fun y c st' => ∃ out2 ia2 ib2 mg ac bc, c = (none, out2, ia2, ib2, mg, ac, bc) ∧ Gl a₀ k0 st st' ∧ ML r a.toList b.toList out2.toList ia2 ib2 ∧ ia2 + 1 < a.size ∧ ib2 < b.size ∧ ia + ib + 1 ≤ ia2 + ib2)
    (Q := fun c st' => (∃ out2 ia2 ib2 mg ac bc, c = (none, out2, ia2, ib2, mg, ac, bc) ∧ Gl a₀ k0 st st' ∧ ML r a.toList b.toList out2.toList ia2 ib2 ∧ ia2 + 1 < a.size ∧ ib2 < b.size ∧ ia + ib + 1 ≤ ia2 + ib2) ∨ ∃ res rest, c = (some res, rest) ∧ Gl a₀ k0 st st' ∧ Mg r a.toList b.toList res.toList) ?_ ?_ ⟨_, _, _, _, _, _, rfl, hG1, hM1, q1, q2, q3⟩) ?_)
  · rintro y c st3 _ _ ⟨out2, ia2, ib2, mg2, ac2, bc2, rfl, hG2, hM2, w1, w2, w3⟩
    obtain ⟨u, hu0, hu1, hu2, hu3⟩ := get_of (a := b) (i := ib2) w2
    dsimp only
    have hG3 : ∀ g, Gl a₀ k0 st (SortSt.mk' (kindOf st3) (arrOf st3) (pendingOf st3) g (failedOf st3)) := fun g => ⟨⟨hG2.base.perm, hG2.base.kind, hG2.base.failed⟩, hG2.arr, hG2.pend⟩
    apply twoHid
    · intro key
      by_cases hmg : mg2 > 1
      · rw [if_pos hmg]; clear hmg; generalize mg2 - 1 = g; revert g; exact key.h
      · rw [if_neg hmg]; clear hmg; generalize mg2 = g; revert g; exact key.h
    intro g
    apply twoHid
    intro key
    refine wpS_bind (wpS_modify ?_)
    refine wpS_bind (wpS_elem hu0 (wpS_bind (wpS_gallopR (base := ia2) (n := a.size - ia2) (hint := 0) hc (hG3 _).base (hb u hu2) ha (by omega) (by omega) (by rw [List.take_of_length_le (by simp)]; exact srt_sfx hM2.sa) fun k hk hk1 hk2 => ?_)))
    dsimp only
    have hkl : (a.toList.drop ia2).take (a.size - ia2) = a.toList.drop ia2 := List.take_of_length_le (by simp)
    rw [hkl, List.drop_drop] at hk2
    have svb := srt_sfx hM2.sb
    rw [hu3] at svb
    have hM3 := hM2.pushA (k := k) fun c hc z hz => by
      have e1 := hk1 c hc
      rw [hu3] at hz
      rcases List.mem_cons.mp hz with ez | hz
      · rw [ez]; exact e1
      · exact Nat.le_trans e1 ((List.pairwise_cons.mp svb).1 z hz)
    have eo : (out2 ++ a.extract ia2 (ia2 + k)).toList = out2.toList ++ (a.toList.drop ia2).take k := by rw [Array.toList_append, ext_take]
    rw [← eo] at hM3
    · by_cases hk0 : k > 0
      · rw [if_pos hk0]
        by_cases e1 : ia2 + k + 1 = a.size
        · rw [if_pos (by simpa using e1)]
          exact wpS_pure (.inr ⟨_, _, rfl, hG3 _, fin3 hM3 e1⟩)
        rw [if_neg (by simpa using e1)]
        by_cases e2 : ia2 + k = a.size
        · rw [if_pos (by simpa using e2)]
          exact wpS_pure (.inr ⟨_, _, rfl, hG3 _, fin2 hM3 (by omega)⟩)
        rw [if_neg (by simpa using e2)]
        have hi3 : ia2 + k + 1 < a.size ∧ ia + ib + 1 ≤ ia2 + k + ib2 := by omega
        revert hM3 hi3 hk2
        generalize out2 ++ a.extract ia2 (ia2 + k) = out3
        generalize ia2 + k = ia3
        generalize k = acx
        revert out3 ia3 acx
        exact key.h
      · rw [if_neg hk0]
        have hkn : k = 0 := by omega
        have hi3 : ia2 + 1 < a.size ∧ ia + ib + 1 ≤ ia2 + ib2 := by omega
        have eo2 : out2 ++ a.extract ia2 (ia2 + 0) = out2 := Array.toList_inj.mp (by rw [Array.toList_append, ext_take]; simp)
        rw [hkn, eo2, Nat.add_zero] at hM3
        rw [hkn, Nat.add_zero] at hk2
        revert hM3 hi3 hk2
        generalize out2 = out3
        generalize ia2 = ia3
        generalize k = acx
        revert out3 ia3 acx
        exact key.h
    intro out3 ia3 acx hk2 hM3 hi3
    refine wpS_bind (wpS_elem hu0 ?_)
    have hM4 := pB hM3 hu3 (fun z hz => Nat.le_of_lt (hk2 z hz))
    by_cases e3 : ib2 + 1 = b.size
    · rw [if_pos (by simpa using e3)]
      exact wpS_pure (.inr ⟨_, _, rfl, hG3 _, fin1 hM4 (by omega)⟩)
    rw [if_neg (by simpa using e3)]
    obtain ⟨v, hv0, hv1, hv2, hv3⟩ := get_of (a := a) (i := ia3) (by omega)
    apply twoHid
    intro key
    refine wpS_bind (wpS_elem hv0 (wpS_bind (wpS_gallopL (base := ib2 + 1) (n := b.size - (ib2 + 1)) (hint := 0) hc (hG3 _).base (ha v hv2) hb (by omega) (by omega) (by rw [List.take_of_length_le (by simp)]; exact srt_sfx hM4.sb) fun k' hk' hk1' hk2' => ?_)))
    dsimp only
    have hkl' : (b.toList.drop (ib2 + 1)).take (b.size - (ib2 + 1)) = b.toList.drop (ib2 + 1) := List.take_of_length_le (by simp)
    rw [hkl', List.drop_drop] at hk2'
    have sva := srt_sfx hM4.sa
    rw [hv3] at sva
    have hM5 := hM4.pushB (k := k') fun c hc z hz => by
      have e1 := hk1' c hc
      rw [hv3] at hz
      rcases List.mem_cons.mp hz with ez | hz
      · rw [ez]; exact Nat.le_of_lt e1
      · exact Nat.le_trans (Nat.le_of_lt e1) ((List.pairwise_cons.mp sva).1 z hz)
    have eo' : (out3.push u ++ b.extract (ib2 + 1) (ib2 + 1 + k')).toList = (out3.push u).toList ++ (b.toList.drop (ib2 + 1)).take k' := by rw [Array.toList_append, ext_take]
    rw [← eo'] at hM5
    · by_cases hk0' : k' > 0
      · rw [if_pos hk0']
        by_cases e4 : ib2 + 1 + k' = b.size
        · rw [if_pos (by simpa using e4)]
          exact wpS_pure (.inr ⟨_, _, rfl, hG3 _, fin1 hM5 (by omega)⟩)
        rw [if_neg (by simpa using e4)]
        have hi4 : ib2 + 1 + k' < b.size ∧ ia + ib + 1 ≤ ia3 + (ib2 + 1 + k') := by omega
        revert hM5 hi4 hk2'
        generalize out3.push u ++ b.extract (ib2 + 1) (ib2 + 1 + k') = out4
        generalize ib2 + 1 + k' = ib4
        generalize k' = bcx
        revert out4 ib4 bcx
        exact key.h
      · rw [if_neg hk0']
        have hkn : k' = 0 := by omega
        have hi4 : ib2 + 1 < b.size ∧ ia + ib + 1 ≤ ia3 + (ib2 + 1) := by omega
        have eo2' : out3.push u ++ b.extract (ib2 + 1) (ib2 + 1 + 0) = out3.push u := Array.toList_inj.mp (by rw [Array.toList_append, ext_take]; simp)
        rw [hkn, eo2', Nat.add_zero] at hM5
        rw [hkn, Nat.add_zero] at hk2'
        revert hM5 hi4 hk2'
        generalize out3.push u = out4
        generalize ib2 + 1 = ib4
        generalize k' = bcx
        revert out4 ib4 bcx
        exact key.h
    intro out4 ib4 bcx hk2' hM5 hi4
    refine wpS_bind (wpS_elem hv0 ?_)
    have hM6 := pA hM5 hv3 (fun z hz => hk2' z hz)
    by_cases e5 : ia3 + 1 + 1 = a.size
    · rw [if_pos (by simpa using e5)]
      exact wpS_pure (.inr ⟨_, _, rfl, hG3 _, fin3 hM6 e5⟩)
    rw [if_neg (by simpa using e5)]
    split
    · exact wpS_pure (.inl ⟨_, _, _, _, _, _, rfl, hG3 _, hM6, by omega, hi4.1, by omega⟩)
    · exact wpS_pure ⟨_, _, _, _, _, _, rfl, hG3 _, hM6, by omega, hi4.1, by omega⟩
  · rintro c st' ⟨out2, ia2, ib2, mg2, ac2, bc2, rfl, hG2, hM2, w1, w2, w3⟩
    exact .inl ⟨_, _, _, _, _, _, rfl, hG2, hM2, w1, w2, w3⟩
  · rintro c st3 (⟨out2, ia2, ib2, mg2, ac2, bc2, rfl, hG2, hM2, w1, w2, w3⟩ | ⟨res, rest, rfl, hG2, hM2⟩)
    · dsimp only
      refine wpS_bind (wpS_modify (wpS_pure ⟨_, _, _, _, rfl, ⟨⟨hG2.base.perm, hG2.base.kind, hG2.base.failed⟩, hG2.arr, hG2.pend⟩, hM2, w1, w2, by omega⟩))
    · dsimp only
      exact wpS_pure ⟨_, _, rfl, hG2, hM2⟩
end TS
namespace TS
open PySem PyProof.Rows
variable {prog : Program} {w : World} {A : Around} {E : Value → Shared → Prop} {s : Shared} {a₀ : Array Keyed} {r : Keyed → Nat} {k0 : SortKind}
structure MH (r : Keyed → Nat) (la lb O : List Keyed) (na nb : Nat) : Prop where
  perm : O.Perm (la.drop na ++ lb.drop nb)
  sa : Srt r (la.take na ++ O)
  sb : Srt r (lb.take nb ++ O)
theorem push_midR {X Y C O : List Keyed} (h1 : Srt r (Y ++ O)) (h2 : Srt r ((X ++ C) ++ O)) (h3 : ∀ y ∈ Y, ∀ c ∈ C, r y ≤ r c) : Srt r (Y ++ (C ++ O)) ∧ Srt r (X ++ (C ++ O)) := by
  rw [List.append_assoc] at h2
  refine ⟨?_, h2⟩
  obtain ⟨a1, a2, a3⟩ := List.pairwise_append.mp h1
  obtain ⟨b1, b2, b3⟩ := List.pairwise_append.mp h2
  refine List.pairwise_append.mpr ⟨a1, b2, fun x hx y hy => ?_⟩
  rcases List.mem_append.mp hy with hy | hy
  · exact h3 x hx y hy
  · exact a3 x hx y hy
theorem take_split (l : List Keyed) {k n : Nat} (h : k ≤ n) : l.take k ++ (l.take n).drop k = l.take n := by
  have := List.take_append_drop k (l.take n)
  rwa [List.take_take, Nat.min_eq_left h] at this
theorem drop_split (l : List Keyed) {k n : Nat} (h : k ≤ n) : (l.take n).drop k ++ l.drop n = l.drop k := by
  rw [List.drop_take]
  have e : l.drop n = (l.drop k).drop (n - k) := by rw [List.drop_drop]; congr 1; omega
  rw [e, List.take_append_drop]
theorem MH.pushA {la lb O : List Keyed} {na nb k : Nat} (h : MH r la lb O na nb) (hk : k ≤ na) (hle : ∀ y ∈ lb.take nb, ∀ c ∈ (la.take na).drop k, r y ≤ r c) : MH r la lb ((la.take na).drop k ++ O) k nb := by
  obtain ⟨p1, p2⟩ := push_midR (X := la.take k) (C := (la.take na).drop k) h.sb (by rw [take_split la hk]; exact h.sa) hle
  refine ⟨?_, p2, p1⟩
  rw [← drop_split la hk, List.append_assoc]
  exact h.perm.append_left _
theorem MH.pushB {la lb O : List Keyed} {na nb k : Nat} (h : MH r la lb O na nb) (hk : k ≤ nb) (hle : ∀ y ∈ la.take na, ∀ c ∈ (lb.take nb).drop k, r y ≤ r c) : MH r la lb ((lb.take nb).drop k ++ O) na k := by
  obtain ⟨p1, p2⟩ := push_midR (X := lb.take k) (C := (lb.take nb).drop k) h.sa (by rw [take_split lb hk]; exact h.sb) hle
  refine ⟨?_, p1, p2⟩
  rw [← drop_split lb hk]
  refine (h.perm.append_left _).trans ?_
  rw [← List.append_assoc, ← List.append_assoc]
  exact List.perm_append_comm.append_right _
theorem MH.doneA {la lb O : List Keyed} {nb : Nat} (h : MH r la lb O 0 nb) : Mg r la lb (la.take 0 ++ lb.take nb ++ O) := by
  rw [List.take_zero, List.nil_append]
  refine ⟨?_, h.sb⟩
  refine (h.perm.append_left _).trans ?_
  rw [List.drop_zero, ← List.append_assoc]
  refine (List.perm_append_comm.append_right _).trans ?_
  rw [List.append_assoc, List.take_append_drop]
theorem MH.doneB {la lb O : List Keyed} {na : Nat} (h : MH r la lb O na 0) : Mg r la lb (la.take na ++ lb.take 0 ++ O) := by
  rw [List.take_zero, List.append_nil]
  refine ⟨?_, h.sa⟩
  refine (h.perm.append_left _).trans ?_
  rw [List.drop_zero, ← List.append_assoc, List.take_append_drop]
theorem MH.firstB {la lb O : List Keyed} {na : Nat} (h : MH r la lb O na 1) (hf : ∀ y ∈ lb.take 1, ∀ x ∈ la, r y ≤ r x) : Mg r la lb (lb.take 1 ++ la.take na ++ O) := by
  constructor
  · rw [List.append_assoc]
    refine ((h.perm.append_left _).append_left _).trans ?_
    rw [← List.append_assoc (la.take na), List.take_append_drop, ← List.append_assoc]
    refine (List.perm_append_comm.append_right _).trans ?_
    rw [List.append_assoc, List.take_append_drop]
  · rw [List.append_assoc]
    obtain ⟨b1, b2, b3⟩ := List.pairwise_append.mp h.sb
    refine List.pairwise_append.mpr ⟨b1, h.sa, fun x hx y hy => ?_⟩
    rcases List.mem_append.mp hy with hy | hy
    · exact hf x hx y (List.mem_of_mem_take hy)
    · exact b3 x hx y hy
theorem ext_zero (a : Array Keyed) (n : Nat) : (a.extract 0 n).toList = a.toList.take n := by simp
theorem ext_mid (a : Array Keyed) (k n : Nat) : (a.extract k n).toList = (a.toList.take n).drop k := by simp [List.drop_take]
theorem get_last {a : Array Keyed} {n : Nat} (h : n < a.size) : ∃ p, a[n]? = some p ∧ p ∈ a.toList ∧ (a.toList.take (n + 1)).drop n = [p] ∧ a.toList.take (n + 1) = a.toList.take n ++ [p] := by
  have hl : n < a.toList.length := by rw [Array.length_toList]; exact h
  refine ⟨a.toList[n], ?_, List.getElem_mem hl, ?_, ?_⟩
  · rw [← Array.getElem?_toList]; exact List.getElem?_eq_getElem hl
  · rw [List.drop_take, show n + 1 - n = 1 by omega, List.drop_eq_getElem_cons hl]; rfl
  · rw [List.take_add_one, List.getElem?_eq_getElem hl]; rfl
theorem wpS_mergeHi (hc : CmpOk prog w A s a₀ r k0) {st : SortSt} (hB : SB a₀ k0 st) {a b : Array Keyed} (ha : ∀ p ∈ a.toList, p ∈ a₀.toList) (hb : ∀ p ∈ b.toList, p ∈ a₀.toList) (sa : Srt r a.toList) (sb : Srt r b.toList) (za : 1 ≤ a.size) (zb : 1 ≤ b.size)
    (hf : ∀ y ∈ b.toList.take 1, ∀ x ∈ a.toList, r y ≤ r x) (hl : ∀ x ∈ a.toList.drop (a.size - 1), ∀ y ∈ b.toList, r y ≤ r x) {Q : Array Keyed → SortSt → Prop}
    (h : ∀ out st', Mg r a.toList b.toList out.toList → Gl a₀ k0 st st' → Q out st') : wpS (model prog w) A E s (mergeHi' a b) Q st := by
  unfold mergeHi'
  refine wpS_bind (wpS_lift (wpAny_rule ⟨rfl, ?_⟩))
  have hal : a.toList.length = a.size := Array.length_toList
  have hbl : b.toList.length = b.size := Array.length_toList
  obtain ⟨x0, hx0, hx1, hx2, hx3⟩ := get_last (a := a) (n := a.size - 1) (by omega)
  rw [show a.size - 1 + 1 = a.size by omega, List.take_of_length_le (by omega)] at hx2 hx3
  have mh0 : MH r a.toList b.toList (#[x0] : Array Keyed).toList.reverse (a.size - 1) b.size := by
    refine ⟨?_, ?_, ?_⟩
    · rw [hx2, List.drop_eq_nil_of_le (by omega)]; simp
    · show Srt r (a.toList.take (a.size - 1) ++ [x0])
      rw [← hx3]; exact sa
    · show Srt r (b.toList.take b.size ++ [x0])
      rw [List.take_of_length_le (by omega)]
      refine List.pairwise_append.mpr ⟨sb, List.pairwise_singleton _ _, fun u hu v hv => ?_⟩
      rw [List.mem_singleton.mp hv]
      exact hl x0 (by rw [hx2]; simp) u hu
  have fin1 : ∀ {out : Array Keyed} {na nb : Nat}, MH r a.toList b.toList out.toList.reverse na nb → na = 0 → Mg r a.toList b.toList (a.extract 0 na ++ b.extract 0 nb ++ out.reverse).toList := fun hm e => by
    subst e
    rw [Array.toList_append, Array.toList_append, ext_zero, ext_zero, Array.toList_reverse]; exact hm.doneA
  have fin2 : ∀ {out : Array Keyed} {na nb : Nat}, MH r a.toList b.toList out.toList.reverse na nb → nb = 0 → Mg r a.toList b.toList (a.extract 0 na ++ b.extract 0 nb ++ out.reverse).toList := fun hm e => by
    subst e
    rw [Array.toList_append, Array.toList_append, ext_zero, ext_zero, Array.toList_reverse]; exact hm.doneB
  have fin3 : ∀ {out : Array Keyed} {na nb : Nat}, MH r a.toList b.toList out.toList.reverse na nb → nb = 1 → Mg r a.toList b.toList (b.extract 0 nb ++ a.extract 0 na ++ out.reverse).toList := fun hm e => by
    subst e
    rw [Array.toList_append, Array.toList_append, ext_zero, ext_zero, Array.toList_reverse]; exact hm.firstB hf
  have pA : ∀ {out : Array Keyed} {na nb : Nat} {p : Keyed}, MH r a.toList b.toList out.toList.reverse (na + 1) nb → (a.toList.take (na + 1)).drop na = [p] → (∀ y ∈ b.toList.take nb, r y ≤ r p) → MH r a.toList b.toList (out.push p).toList.reverse na nb := fun {out na nb p} hm hd hle => by
    have := hm.pushA (k := na) (by omega) (fun y hy c hc => by rw [hd] at hc; rw [List.mem_singleton.mp hc]; exact hle y hy)
    rw [hd] at this
    rw [Array.toList_push, List.reverse_append]
    exact this
  have pB : ∀ {out : Array Keyed} {na nb : Nat} {p : Keyed}, MH r a.toList b.toList out.toList.reverse na (nb + 1) → (b.toList.take (nb + 1)).drop nb = [p] → (∀ y ∈ a.toList.take na, r y ≤ r p) → MH r a.toList b.toList (out.push p).toList.reverse na nb := fun {out na nb p} hm hd hle => by
    have := hm.pushB (k := nb) (by omega) (fun y hy c hc => by rw [hd] at hc; rw [List.mem_singleton.mp hc]; exact hle y hy)
    rw [hd] at this
    rw [Array.toList_push, List.reverse_append]
    exact this
  refine wpS_bind (wpS_elem hx0 ?_)
  dsimp only
  by_cases ha1 : a.size - 1 = 0
  · rw [if_pos (by simpa using ha1)]
    exact wpS_pure (h _ _ (fin1 mh0 ha1) (Gl.refl hB))
  rw [if_neg (by simpa using ha1)]
  by_cases hb1 : b.size = 1
  · rw [if_pos (by simpa using hb1)]
    exact wpS_pure (h _ _ (fin3 mh0 hb1) (Gl.refl hB))
  rw [if_neg (by simpa using hb1)]
  refine wpS_bind (wpS_get ?_)
  refine wpS_bind (wpS_mono (wpS_forRange (I := fun x c st' => ∃ na nb out mg, c = (none, na, nb, out, mg) ∧ Gl a₀ k0 st st' ∧ MH r a.toList b.toList out.toList.reverse na nb ∧ 1 ≤ na ∧ 2 ≤ nb ∧ na < a.size ∧ nb ≤ b.size ∧ na + nb + x + 1 ≤ a.size + b.size)
    (Q := fun c st' => ∃ res rest, c = (some res, rest) ∧ Gl a₀ k0 st st' ∧ Mg r a.toList b.toList res.toList) ?_ ?_ ⟨_, _, _, _, rfl, Gl.refl hB, mh0, by omega, by omega, by omega, by omega, by omega⟩) ?_)
  rotate_left
  · rintro c st' ⟨na, nb, out, mg, rfl, hG, hM, g1, g2, g3, g4, g5⟩
    omega
  · rintro c st' ⟨res, rest, rfl, hG, hM⟩
    exact wpS_pure (h res st' hM hG)
  rintro x c st1 _ _ ⟨na, nb, out, mg, rfl, hG, hM, g1, g2, g3, g4, g5⟩
  dsimp only
  refine wpS_bind (wpS_mono (wpS_forRange (I := fun y c st' => ∃ na1 nb1 out1 ac bc, c = (none, na1, nb1, out1, ac, bc) ∧ Gl a₀ k0 st st' ∧ MH r a.toList b.toList out1.toList.reverse na1 nb1 ∧ 1 ≤ na1 ∧ 2 ≤ nb1 ∧ na1 < a.size ∧ nb1 ≤ b.size ∧ na1 + nb1 + y ≤ na + nb)
    (Q := fun c st' => (∃ na1 nb1 out1 ac bc, c = (none, na1, nb1, out1, ac, bc) ∧ Gl a₀ k0 st st' ∧ MH r a.toList b.toList out1.toList.reverse na1 nb1 ∧ 1 ≤ na1 ∧ 2 ≤ nb1 ∧ na1 < a.size ∧ nb1 ≤ b.size ∧ na1 + nb1 + 1 ≤ na + nb) ∨ ∃ res rest, c = (some res, rest) ∧ Gl a₀ k0 st st' ∧ Mg r a.toList b.toList res.toList) ?_ ?_ ⟨_, _, _, _, _, rfl, hG, hM, g1, g2, g3, g4, by omega⟩) ?_)
  · rintro y c st2 _ _ ⟨na1, nb1, out1, ac, bc, rfl, hG1, hM1, q1, q2, q3, q4, q5⟩
    obtain ⟨n, rfl⟩ : ∃ n, na1 = n + 1 := ⟨na1 - 1, by omega⟩
    obtain ⟨m, rfl⟩ : ∃ m, nb1 = m + 1 := ⟨nb1 - 1, by omega⟩
    obtain ⟨u, hu0, hu1, hu2, hu3⟩ := get_last (a := b) (n := m) (by omega)
    obtain ⟨v, hv0, hv1, hv2, hv3⟩ := get_last (a := a) (n := n) (by omega)
    dsimp only
    simp only [Nat.add_sub_cancel]
    refine wpS_bind (wpS_elem hu0 (wpS_bind (wpS_elem hv0 (wpS_bind (wpS_lt hc hG1.base (hb u hu1) (ha v hv1) ?_)))))
    dsimp only
    have sva := (List.pairwise_append.mp hM1.sa).1
    have svb := (List.pairwise_append.mp hM1.sb).1
    rw [hv3] at sva
    rw [hu3] at svb
    by_cases hlt : r u < r v
    · rw [decide_eq_true hlt, if_pos rfl]
      refine wpS_bind (wpS_elem hv0 ?_)
      have hM2 := pA hM1 hv2 (fun z hz => by
        rw [hu3] at hz
        rcases List.mem_append.mp hz with hz | hz
        · exact Nat.le_trans ((List.pairwise_append.mp svb).2.2 z hz u (by simp)) (Nat.le_of_lt hlt)
        · rw [List.mem_singleton.mp hz]; omega)
      by_cases e1 : n = 0
      · rw [if_pos (by simpa using e1)]
        exact wpS_pure (.inr ⟨_, _, rfl, hG1, fin1 hM2 e1⟩)
      · rw [if_neg (by simpa using e1)]
        by_cases e2 : ac + 1 ≥ mg
        · rw [if_pos e2]
          exact wpS_pure (.inl ⟨_, _, _, _, _, rfl, hG1, hM2, by omega, by omega, by omega, by omega, by omega⟩)
        · rw [if_neg e2]
          exact wpS_pure ⟨_, _, _, _, _, rfl, hG1, hM2, by omega, by omega, by omega, by omega, by omega⟩
    · rw [decide_eq_false hlt, if_neg (by decide)]
      refine wpS_bind (wpS_elem hu0 ?_)
      have hM2 := pB hM1 hu2 (fun z hz => by
        rw [hv3] at hz
        rcases List.mem_append.mp hz with hz | hz
        · have := (List.pairwise_append.mp sva).2.2 z hz v (by simp)
          unfold le at this
          omega
        · rw [List.mem_singleton.mp hz]; omega)
      by_cases e1 : m = 1
      · rw [if_pos (by simpa using e1)]
        exact wpS_pure (.inr ⟨_, _, rfl, hG1, fin3 hM2 e1⟩)
      · rw [if_neg (by simpa using e1)]
        by_cases e2 : bc + 1 ≥ mg
        · rw [if_pos e2]
          exact wpS_pure (.inl ⟨_, _, _, _, _, rfl, hG1, hM2, by omega, by omega, by omega, by omega, by omega⟩)
        · rw [if_neg e2]
          exact wpS_pure ⟨_, _, _, _, _, rfl, hG1, hM2, by omega, by omega, by omega, by omega, by omega⟩
  · rintro c st' ⟨na1, nb1, out1, ac, bc, rfl, hG1, hM1, q1, q2, q3, q4, q5⟩
    omega
  rintro c st2 (⟨na1, nb1, out1, ac, bc, rfl, hG1, hM1, q1, q2, q3, q4, q5⟩ | ⟨res, rest, rfl, hG1, hM1⟩)
  rotate_left
  · dsimp only
    exact wpS_pure ⟨_, _, rfl, hG1, hM1⟩
  dsimp only
  refine wpS_bind (wpS_lift (wpAny_rule ⟨rfl, ?_⟩))
  refine wpS_bind (wpS_mono (wpS_forRange (I := fun y c st' => ∃ na2 nb2 out2 mg ac bc, c = (none, na2, nb2, out2, mg, ac, bc) ∧ Gl a₀ k0 st st' ∧ MH r a.toList b.toList out2.toList.reverse na2 nb2 ∧ 1 ≤ na2 ∧ 2 ≤ nb2 ∧ na2 < a.size ∧ nb2 ≤ b.size ∧ na2 + nb2 + 1 ≤ na + nb)
    (Q := fun c st' => (∃ na2 nb2 out2 mg ac bc, c = (none, na2, nb2, out2, mg, ac, bc) ∧ Gl a₀ k0 st st' ∧ MH r a.toList b.toList out2.toList.reverse na2 nb2 ∧ 1 ≤ na2 ∧ 2 ≤ nb2 ∧ na2 < a.size ∧ nb2 ≤ b.size ∧ na2 + nb2 + 1 ≤ na + nb) ∨ ∃ res rest, c = (some res, rest) ∧ Gl a₀ k0 st st' ∧ Mg r a.toList b.toList res.toList) ?_ ?_ ⟨_, _, _, _, _, _, rfl, hG1, hM1, q1, q2, q3, q4, q5⟩) ?_)
  · rintro y c st3 _ _ ⟨na2, nb2, out2, mg2, ac2, bc2, rfl, hG2, hM2, w1, w2, w3, w4, w5⟩
    obtain ⟨m, rfl⟩ : ∃ m, nb2 = m + 1 := ⟨nb2 - 1, by omega⟩
    obtain ⟨u, hu0, hu1, hu2, hu3⟩ := get_last (a := b) (n := m) (by omega)
    have hG3 : ∀ g, Gl a₀ k0 st (SortSt.mk' (kindOf st3) (arrOf st3) (pendingOf st3) g (failedOf st3)) := fun g => ⟨⟨hG2.base.perm, hG2.base.kind, hG2.base.failed⟩, hG2.arr, hG2.pend⟩
    dsimp only
    simp only [Nat.add_sub_cancel]
    apply twoHid
    · intro key
      by_cases hmg : mg2 > 1
      · rw [if_pos hmg]; clear hmg; generalize mg2 - 1 = g; revert g; exact key.h
      · rw [if_neg hmg]; clear hmg; generalize mg2 = g; revert g; exact key.h
    intro g
    apply twoHid
    intro key
    refine wpS_bind (wpS_modify ?_)
    refine wpS_bind (wpS_elem hu0 (wpS_bind (wpS_gallopR (base := 0) (n := na2) (hint := na2 - 1) hc (hG3 _).base (hb u hu1) ha (by omega) (by omega) (by rw [List.drop_zero]; exact (List.pairwise_append.mp hM2.sa).1) fun k hk hk1 hk2 => ?_)))
    dsimp only
    rw [List.drop_zero] at hk1 hk2
    have svb := (List.pairwise_append.mp hM2.sb).1
    rw [hu3] at svb
    have hM3 := hM2.pushA (k := k) hk fun z hz c hc => by
      have e1 := hk2 c hc
      rw [hu3] at hz
      rcases List.mem_append.mp hz with hz | hz
      · exact Nat.le_trans ((List.pairwise_append.mp svb).2.2 z hz u (by simp)) (Nat.le_of_lt e1)
      · rw [List.mem_singleton.mp hz]; exact Nat.le_of_lt e1
    have eo : (out2 ++ (a.extract k na2).reverse).toList.reverse = (a.toList.take na2).drop k ++ out2.toList.reverse := by
      rw [Array.toList_append, List.reverse_append, Array.toList_reverse, List.reverse_reverse, ext_mid]
    rw [← eo] at hM3
    · by_cases hk0 : na2 - k > 0
      · rw [if_pos hk0]
        by_cases e1 : k = 0
        · rw [if_pos (by simpa using e1)]
          exact wpS_pure (.inr ⟨_, _, rfl, hG3 _, fin1 hM3 e1⟩)
        rw [if_neg (by simpa using e1)]
        have hi3 : 1 ≤ k ∧ k < a.size ∧ k + (m + 1) + 1 ≤ na + nb := by omega
        generalize na2 - k = acx
        revert hM3 hi3 hk1
        generalize out2 ++ (a.extract k na2).reverse = out3
        generalize k = na3
        revert out3 na3 acx
        exact key.h
      · rw [if_neg hk0]
        have hkn : k = na2 := by omega
        have hi3 : 1 ≤ na2 ∧ na2 < a.size ∧ na2 + (m + 1) + 1 ≤ na + nb := by omega
        have eo2 : out2 ++ (a.extract na2 na2).reverse = out2 := Array.toList_inj.mp (by rw [Array.toList_append, Array.toList_reverse, ext_mid]; simp)
        rw [hkn, eo2] at hM3
        rw [hkn] at hk1
        generalize na2 - k = acx
        revert hM3 hi3 hk1
        generalize out2 = out3
        generalize na2 = na3
        revert out3 na3 acx
        exact key.h
    intro acx out3 na3 hk1 hM3 hi3
    refine wpS_bind (wpS_elem hu0 ?_)
    have hM4 := pB hM3 hu2 (fun z hz => hk1 z hz)
    by_cases e3 : m = 1
    · rw [if_pos (by simpa using e3)]
      exact wpS_pure (.inr ⟨_, _, rfl, hG3 _, fin3 hM4 e3⟩)
    rw [if_neg (by simpa using e3)]
    obtain ⟨n, rfl⟩ : ∃ n, na3 = n + 1 := ⟨na3 - 1, by omega⟩
    obtain ⟨v, hv0, hv1, hv2, hv3⟩ := get_last (a := a) (n := n) (by omega)
    simp only [Nat.add_sub_cancel]
    apply twoHid
    intro key
    refine wpS_bind (wpS_elem hv0 (wpS_bind (wpS_gallopL (base := 0) (n := m) (hint := m - 1) hc (hG3 _).base (ha v hv1) hb (by omega) (by omega) (by rw [List.drop_zero]; exact (List.pairwise_append.mp hM4.sb).1) fun k' hk' hk1' hk2' => ?_)))
    dsimp only
    rw [List.drop_zero] at hk1' hk2'
    have sva := (List.pairwise_append.mp hM4.sa).1
    rw [hv3] at sva
    have hM5 := hM4.pushB (k := k') hk' fun z hz c hc => by
      have e1 := hk2' c hc
      rw [hv3] at hz
      rcases List.mem_append.mp hz with hz | hz
      · exact Nat.le_trans ((List.pairwise_append.mp sva).2.2 z hz v (by simp)) e1
      · rw [List.mem_singleton.mp hz]; exact e1
    have eo' : (out3.push u ++ (b.extract k' m).reverse).toList.reverse = (b.toList.take m).drop k' ++ (out3.push u).toList.reverse := by
      rw [Array.toList_append, List.reverse_append, Array.toList_reverse, List.reverse_reverse, ext_mid]
    rw [← eo'] at hM5
    · by_cases hk0' : m - k' > 0
      · rw [if_pos hk0']
        by_cases e4 : k' = 1
        · rw [if_pos (by simpa using e4)]
          exact wpS_pure (.inr ⟨_, _, rfl, hG3 _, fin3 hM5 e4⟩)
        rw [if_neg (by simpa using e4)]
        by_cases e5 : k' = 0
        · rw [if_pos (by simpa using e5)]
          exact wpS_pure (.inr ⟨_, _, rfl, hG3 _, fin2 hM5 e5⟩)
        rw [if_neg (by simpa using e5)]
        have hi4 : 2 ≤ k' ∧ k' ≤ b.size ∧ n + k' + 1 ≤ na + nb := by omega
        generalize m - k' = bcx
        revert hM5 hi4 hk1'
        generalize out3.push u ++ (b.extract k' m).reverse = out4
        generalize k' = nb4
        revert out4 nb4 bcx
        exact key.h
      · rw [if_neg hk0']
        have hkn : k' = m := by omega
        have hi4 : 2 ≤ m ∧ m ≤ b.size ∧ n + m + 1 ≤ na + nb := by omega
        have eo2' : out3.push u ++ (b.extract m m).reverse = out3.push u := Array.toList_inj.mp (by rw [Array.toList_append, Array.toList_reverse, ext_mid]; simp)
        rw [hkn, eo2'] at hM5
        rw [hkn] at hk1'
        generalize m - k' = bcx
        revert hM5 hi4 hk1'
        generalize out3.push u = out4
        generalize m = nb4
        revert out4 nb4 bcx
        exact key.h
    intro bcx out4 nb4 hk1' hM5 hi4
    refine wpS_bind (wpS_elem hv0 ?_)
    have hM6 := pA hM5 hv2 (fun z hz => Nat.le_of_lt (hk1' z hz))
    by_cases e6 : n = 0
    · rw [if_pos (by simpa using e6)]
      exact wpS_pure (.inr ⟨_, _, rfl, hG3 _, fin1 hM6 e6⟩)
    rw [if_neg (by simpa using e6)]
    split
    · exact wpS_pure (.inl ⟨_, _, _, _, _, _, rfl, hG3 _, hM6, by omega, by omega, by omega, by omega, by omega⟩)
    · exact wpS_pure ⟨_, _, _, _, _, _, rfl, hG3 _, hM6, by omega, by omega, by omega, by omega, by omega⟩
  · rintro c st' ⟨na2, nb2, out2, mg2, ac2, bc2, rfl, hG2, hM2, w1, w2, w3, w4, w5⟩
    exact .inl ⟨_, _, _, _, _, _, rfl, hG2, hM2, w1, w2, w3, w4, w5⟩
  · rintro c st3 (⟨na2, nb2, out2, mg2, ac2, bc2, rfl, hG2, hM2, w1, w2, w3, w4, w5⟩ | ⟨res, rest, rfl, hG2, hM2⟩)
    · dsimp only
      refine wpS_bind (wpS_modify (wpS_pure ⟨_, _, _, _, rfl, ⟨⟨hG2.base.perm, hG2.base.kind, hG2.base.failed⟩, hG2.arr, hG2.pend⟩, hM2, w1, w2, w3, w4, by omega⟩))
    · dsimp only
      exact wpS_pure ⟨_, _, rfl, hG2, hM2⟩
end TS
namespace TS
open PySem PyProof.Rows
variable {prog : Program} {w : World} {A : Around} {E : Value → Shared → Prop} {s : Shared} {a₀ : Array Keyed} {r : Keyed → Nat} {k0 : SortKind}
noncomputable abbrev seg (l : List Keyed) (i n : Nat) : List Keyed := (l.drop i).take n
noncomputable def Runs (r : Keyed → Nat) (l : List Keyed) : Nat → List (Nat × Nat × Nat) → Nat → Prop
  | b, [], lo => b = lo
  | b, (st, n, _) :: rest, lo => st = b ∧ 1 ≤ n ∧ Srt r (seg l b n) ∧ Runs r l (b + n) rest lo
theorem Runs.le {l : List Keyed} : ∀ {p : List (Nat × Nat × Nat)} {b lo : Nat}, Runs r l b p lo → b + p.length ≤ lo
  | [], _, _, h => by rw [Runs] at h; subst h; simp
  | (st, n, _) :: rest, b, lo, h => by
    rw [Runs] at h
    have := Runs.le h.2.2.2
    rw [List.length_cons]; omega
theorem Runs.same {l l' : List Keyed} : ∀ {p : List (Nat × Nat × Nat)} {b lo : Nat}, Runs r l b p lo → (∀ i n, b ≤ i → i + n ≤ lo → seg l' i n = seg l i n) → Runs r l' b p lo
  | [], _, _, h, _ => h
  | (st, n, _) :: rest, b, lo, h, e => by
    rw [Runs] at h ⊢
    have := Runs.le h.2.2.2
    exact ⟨h.1, h.2.1, by rw [e b n (Nat.le_refl _) (by omega)]; exact h.2.2.1, Runs.same h.2.2.2 fun i n' h1 h2 => e i n' (by omega) h2⟩
theorem Runs.snoc {l : List Keyed} : ∀ {p : List (Nat × Nat × Nat)} {b lo n pw : Nat}, Runs r l b p lo → 1 ≤ n → Srt r (seg l lo n) → Runs r l b (p ++ [(lo, n, pw)]) (lo + n)
  | [], b, lo, n, pw, h, h1, h2 => by
    rw [Runs] at h
    subst h
    exact ⟨rfl, h1, h2, rfl⟩
  | (st, m, _) :: rest, b, lo, n, pw, h, h1, h2 => by
    rw [Runs] at h
    exact ⟨h.1, h.2.1, h.2.2.1, Runs.snoc h.2.2.2 h1 h2⟩
theorem Runs.merge {l l' : List Keyed} : ∀ {pre : List (Nat × Nat × Nat)} {b lo sa na pa sb nb pb : Nat} {post : List (Nat × Nat × Nat)}, Runs r l b (pre ++ (sa, na, pa) :: (sb, nb, pb) :: post) lo →
    (∀ i n, i + n ≤ sa → seg l' i n = seg l i n) → (∀ i n, sa + na + nb ≤ i → seg l' i n = seg l i n) → Srt r (seg l' sa (na + nb)) → Runs r l' b (pre ++ (sa, na + nb, pa) :: post) lo
  | [], b, lo, sa, na, pa, sb, nb, pb, post, h, h1, h2, h3 => by
    rw [List.nil_append, Runs, Runs] at h
    obtain ⟨rfl, g1, g2, rfl, g3, g4, g5⟩ := h
    refine ⟨rfl, by omega, h3, ?_⟩
    rw [Nat.add_assoc] at g5
    exact g5.same fun i n q1 q2 => h2 i n (by omega)
  | (st, n, _) :: rest, b, lo, sa, na, pa, sb, nb, pb, post, h, h1, h2, h3 => by
    rw [List.cons_append, Runs] at h
    obtain ⟨rfl, g1, g2, g3⟩ := h
    have hsa : st + n ≤ sa := by
      have : ∀ {pre : List (Nat × Nat × Nat)} {b : Nat}, Runs r l b (pre ++ (sa, na, pa) :: (sb, nb, pb) :: post) lo → b ≤ sa := by
        intro pre
        induction pre with
        | nil => intro b h; rw [List.nil_append, Runs] at h; omega
        | cons x r' ih => intro b h; obtain ⟨x1, x2, x3⟩ := x; rw [List.cons_append, Runs] at h; have := ih h.2.2.2; omega
      exact this g3
    refine ⟨rfl, g1, by rw [h1 st n hsa]; exact g2, Runs.merge g3 h1 h2 h3⟩
theorem Runs.at {l : List Keyed} : ∀ {pre : List (Nat × Nat × Nat)} {b lo sa na pa sb nb pb : Nat} {post : List (Nat × Nat × Nat)}, Runs r l b (pre ++ (sa, na, pa) :: (sb, nb, pb) :: post) lo →
    b ≤ sa ∧ sb = sa + na ∧ 1 ≤ na ∧ 1 ≤ nb ∧ sb + nb ≤ lo ∧ Srt r (seg l sa na) ∧ Srt r (seg l sb nb)
  | [], b, lo, sa, na, pa, sb, nb, pb, post, h => by
    rw [List.nil_append, Runs, Runs] at h
    obtain ⟨rfl, g1, g2, rfl, g3, g4, g5⟩ := h
    have := g5.le
    exact ⟨Nat.le_refl _, rfl, g1, g3, by omega, g2, g4⟩
  | (st, n, _) :: rest, b, lo, sa, na, pa, sb, nb, pb, post, h => by
    rw [List.cons_append, Runs] at h
    obtain ⟨rfl, g1, g2, g3⟩ := h
    obtain ⟨q1, q2⟩ := Runs.at g3
    exact ⟨by omega, q2⟩
theorem over_get (off : Nat) : ∀ (ms : List Keyed) (j : Nat) (xs : Array Keyed) (k : Nat), off + j + ms.length ≤ xs.size →
    ((ms.zipIdx j).foldl (fun a (p : Keyed × Nat) => a.setIfInBounds (off + p.2) p.1) xs)[k]? = if off + j ≤ k ∧ k < off + j + ms.length then ms[k - (off + j)]? else xs[k]?
  | [], j, xs, k, _ => by simp; omega
  | m :: ms, j, xs, k, h => by
    rw [List.zipIdx_cons, List.foldl_cons]
    rw [List.length_cons] at h
    rw [over_get off ms (j + 1) _ k (by rw [Array.size_setIfInBounds]; omega)]
    rw [List.length_cons]
    by_cases h1 : off + (j + 1) ≤ k ∧ k < off + (j + 1) + ms.length
    · rw [if_pos h1, if_pos (by omega)]
      obtain ⟨q, hq⟩ : ∃ q, k - (off + j) = q + 1 := ⟨k - (off + j) - 1, by omega⟩
      rw [hq, List.getElem?_cons_succ]
      congr 1
      omega
    · rw [if_neg h1, Array.getElem?_setIfInBounds]
      by_cases h2 : off + j = k
      · rw [if_pos h2, if_pos (by omega), if_pos (by omega)]
        have : k - (off + j) = 0 := by omega
        rw [this]; rfl
      · rw [if_neg h2, if_neg (by omega)]
theorem over_list (off : Nat) (ms : List Keyed) (xs : Array Keyed) (h : off + ms.length ≤ xs.size) : ((ms.zipIdx).foldl (fun a (p : Keyed × Nat) => a.setIfInBounds (off + p.2) p.1) xs).toList = xs.toList.take off ++ ms ++ xs.toList.drop (off + ms.length) := by
  have hl : xs.toList.length = xs.size := Array.length_toList
  refine List.ext_getElem? fun k => ?_
  rw [Array.getElem?_toList, over_get off ms 0 xs k (by omega), Nat.add_zero, List.append_assoc]
  by_cases h1 : k < off
  · rw [if_neg (by omega), List.getElem?_append_left (by rw [List.length_take]; omega), List.getElem?_take, if_pos h1, Array.getElem?_toList]
  · rw [List.getElem?_append_right (by rw [List.length_take]; omega), List.length_take, show min off xs.toList.length = off by omega]
    by_cases h2 : k < off + ms.length
    · rw [if_pos (by omega), List.getElem?_append_left (by omega)]
    · rw [if_neg (by omega), List.getElem?_append_right (by omega), List.getElem?_drop, Array.getElem?_toList]
      congr 1
      omega
theorem seg_low {l M : List Keyed} {i0 j0 : Nat} (hi : i0 ≤ l.length) (i n : Nat) (h : i + n ≤ i0) : seg (l.take i0 ++ M ++ l.drop j0) i n = seg l i n := by
  unfold seg
  rw [List.append_assoc, List.drop_append_of_le_length (by rw [List.length_take]; omega), List.take_append_of_le_length (by rw [List.length_drop, List.length_take]; omega), List.drop_take, List.take_take]
  congr 1
  omega
theorem seg_high {l M : List Keyed} {i0 j0 : Nat} (hi : i0 + M.length = j0) (hj : j0 ≤ l.length) (i n : Nat) (h : j0 ≤ i) : seg (l.take i0 ++ M ++ l.drop j0) i n = seg l i n := by
  unfold seg
  have e : (l.take i0 ++ M).length = j0 := by rw [List.length_append, List.length_take]; omega
  rw [List.drop_append, List.drop_eq_nil_of_le (by omega), List.nil_append, e, List.drop_drop]
  congr 2
  omega
theorem seg_mid {l M : List Keyed} {sa k i0 j0 t : Nat} (h0 : i0 = sa + k) (hi : i0 + M.length = j0) (hj : j0 + t ≤ l.length) : seg (l.take i0 ++ M ++ l.drop j0) sa (k + M.length + t) = seg l sa k ++ M ++ seg l j0 t := by
  unfold seg
  subst h0
  rw [List.append_assoc, List.drop_append_of_le_length (by rw [List.length_take]; omega), List.drop_take, show sa + k - sa = k by omega]
  have hP : ((l.drop sa).take k).length = k := by rw [List.length_take, List.length_drop]; omega
  generalize (l.drop sa).take k = P0 at *
  subst hP
  rw [Nat.add_assoc, List.take_length_add_append, List.take_length_add_append, List.append_assoc]
theorem seg_get {xs : Array Keyed} {i n : Nat} {p : Keyed} (h : xs[i]? = some p) (hn : 1 ≤ n) : ∃ t, seg xs.toList i n = p :: t := by
  have hp : xs.toList[i]? = some p := by rw [Array.getElem?_toList]; exact h
  obtain ⟨hl, e⟩ := List.getElem?_eq_some_iff.mp hp
  unfold seg
  rw [List.drop_eq_getElem_cons hl, e]
  obtain ⟨m, rfl⟩ : ∃ m, n = m + 1 := ⟨n - 1, by omega⟩
  exact ⟨_, List.take_succ_cons ..⟩
theorem wpS_set {M : Model} {σ : Type} {x : σ} {Q : PUnit → σ → Prop} {st : σ} (h : Q ⟨⟩ x) : wpS M A E s (set x : StateT σ Sem PUnit) Q st := by
  unfold wpS; rw [StateT.run_set]; exact wpAny_pure ⟨rfl, h⟩
theorem merged_srt {l M : List Keyed} {sa na nb k t : Nat} {key1 key2 : Keyed} (sA : Srt r (seg l sa na)) (sB : Srt r (seg l (sa + na) nb)) (hk : k ≤ na) (ht : t ≤ nb)
    (h1 : ∀ c ∈ seg l sa k, r c ≤ r key1) (h2 : ∀ c ∈ (seg l sa na).drop k, r c ≤ r key2) (h3 : ∀ c ∈ seg l (sa + na) nb, r key1 ≤ r c) (h4 : ∀ c ∈ (seg l (sa + na) nb).drop t, r key2 ≤ r c)
    (hM : Mg r ((seg l sa na).drop k) (seg l (sa + na) t) M) : Srt r (seg l sa k ++ M ++ seg l (sa + na + t) (nb - t)) := by
  have eA : seg l sa k ++ (seg l sa na).drop k = seg l sa na := by
    unfold seg
    have := List.take_append_drop k ((l.drop sa).take na)
    rwa [List.take_take, Nat.min_eq_left hk] at this
  have eT : (seg l (sa + na) nb).drop t = seg l (sa + na + t) (nb - t) := by
    unfold seg
    rw [List.drop_take, List.drop_drop]
  have eB : seg l (sa + na) t ++ (seg l (sa + na) nb).drop t = seg l (sa + na) nb := by
    unfold seg
    have := List.take_append_drop t ((l.drop (sa + na)).take nb)
    rwa [List.take_take, Nat.min_eq_left ht] at this
  rw [← eT]
  rw [← eA] at sA
  have h3' := h3
  rw [← eB] at sB h3'
  obtain ⟨a1, a2, a3⟩ := List.pairwise_append.mp sA
  obtain ⟨b1, b2, b3⟩ := List.pairwise_append.mp sB
  have mm : ∀ c ∈ M, c ∈ (seg l sa na).drop k ∨ c ∈ seg l (sa + na) t := fun c hc => List.mem_append.mp (hM.perm.mem_iff.mp hc)
  rw [List.append_assoc]
  refine List.pairwise_append.mpr ⟨a1, List.pairwise_append.mpr ⟨hM.srt, b2, fun x hx y hy => ?_⟩, fun x hx y hy => ?_⟩
  · rcases mm x hx with hx | hx
    · exact Nat.le_trans (h2 x hx) (h4 y hy)
    · exact b3 x hx y hy
  · have hx1 := h1 x hx
    rcases List.mem_append.mp hy with hy | hy
    · rcases mm y hy with hy | hy
      · exact a3 x hx y hy
      · exact Nat.le_trans hx1 (h3' y (List.mem_append_left _ hy))
    · exact Nat.le_trans hx1 (h3' y (List.mem_append_right _ hy))
theorem wpS_mergeAt (hc : CmpOk prog w A s a₀ r k0) {st : SortSt} (hB : SB a₀ k0 st) {i lo : Nat} {pre post : List (Nat × Nat × Nat)} {sa na pa sb nb pb : Nat} (hp : (pendingOf st).toList = pre ++ (sa, na, pa) :: (sb, nb, pb) :: post) (hi : pre.length = i) (hlo : lo ≤ a₀.size)
    (hR : Runs r (arrOf st).toList 0 (pendingOf st).toList lo) {Q : Bool → SortSt → Prop}
    (h : ∀ st', SB a₀ k0 st' → (pendingOf st').toList = pre ++ (sa, na + nb, pa) :: post → Runs r (arrOf st').toList 0 (pendingOf st').toList lo → (∀ i n, lo ≤ i → seg (arrOf st').toList i n = seg (arrOf st).toList i n) → Q true st') : wpS (model prog w) A E s (mergeAt' i) Q st := by
  have hRp := hR
  rw [hp] at hRp
  obtain ⟨_, rfl, z1, z2, z3, sA, sB⟩ := Runs.at hRp
  have hsz := hB.size
  have hl : (arrOf st).toList.length = a₀.size := by rw [Array.length_toList]; exact hsz
  have hpl : (pendingOf st).toList.length = (pendingOf st).size := Array.length_toList
  have e1 : (pendingOf st)[i]? = some (sa, na, pa) := by
    rw [← Array.getElem?_toList, hp, List.getElem?_append_right (by omega), hi, Nat.sub_self]; rfl
  have e2 : (pendingOf st)[i + 1]? = some (sa + na, nb, pb) := by
    rw [← Array.getElem?_toList, hp, List.getElem?_append_right (by omega), hi, show i + 1 - i = 1 by omega]; rfl
  have hpend : (((pendingOf st).setIfInBounds i (sa, na + nb, pa)).eraseIdxIfInBounds (i + 1)).toList = pre ++ (sa, na + nb, pa) :: post := by
    rw [Array.toList_eraseIdxIfInBounds, Array.toList_setIfInBounds, hp, ← hi]
    rw [List.set_append_right _ _ (Nat.le_refl _), Nat.sub_self, List.set_cons_zero, List.eraseIdx_append_of_length_le (by omega), show pre.length + 1 - pre.length = 1 by omega]
    rfl
  have hin : ∀ p ∈ (arrOf st).toList, p ∈ a₀.toList := fun p hp => hB.mem hp
  obtain ⟨kb, hkb⟩ : ∃ p, (arrOf st)[sa + na]? = some p := ⟨_, getElem?_pos _ (sa + na) (by omega)⟩
  unfold mergeAt'
  refine wpS_bind (wpS_get ?_)
  rw [e1, e2]
  dsimp only
  refine wpS_bind (wpS_set ?_)
  have hB1 : SB a₀ k0 (SortSt.mk' (kindOf st) (arrOf st) (((pendingOf st).setIfInBounds i (sa, na + nb, pa)).eraseIdxIfInBounds (i + 1)) (gallopOf st) (failedOf st)) := ⟨hB.perm, hB.kind, hB.failed⟩
  obtain ⟨tB, htB⟩ := seg_get (n := nb) hkb z2
  have kb_le : ∀ c ∈ seg (arrOf st).toList (sa + na) nb, r kb ≤ r c := fun c hcm => by
    rw [htB] at hcm sB
    rcases List.mem_cons.mp hcm with rfl | hcm
    · exact Nat.le_refl _
    · exact (List.pairwise_cons.mp sB).1 c hcm
  refine wpS_bind (wpS_elem hkb (wpS_bind (wpS_gallopR (base := sa) (n := na) (hint := 0) hc hB1 (hB.memAt hkb) hin (by omega) (by omega) sA fun k hk hk1 hk2 => ?_)))
  dsimp only
  by_cases hk0 : na - k = 0
  · rw [if_pos (by simpa using hk0)]
    obtain rfl : k = na := by omega
    refine wpS_pure (h _ hB1 hpend ?_ fun _ _ _ => rfl)
    show Runs r (arrOf st).toList 0 (((pendingOf st).setIfInBounds i (sa, k + nb, pa)).eraseIdxIfInBounds (i + 1)).toList lo
    rw [hpend]
    refine Runs.merge hRp (fun _ _ _ => rfl) (fun _ _ _ => rfl) ?_
    have e : seg (arrOf st).toList sa (k + nb) = seg (arrOf st).toList sa k ++ seg (arrOf st).toList (sa + k) nb := by
      unfold seg
      rw [List.take_add, List.drop_drop]
    rw [e]
    exact List.pairwise_append.mpr ⟨sA, sB, fun x hx y hy => Nat.le_trans (hk1 x hx) (kb_le y hy)⟩
  rw [if_neg (by simpa using hk0)]
  obtain ⟨ka, hka⟩ : ∃ p, (arrOf st)[sa + k + (na - k) - 1]? = some p := ⟨_, getElem?_pos _ (sa + k + (na - k) - 1) (by omega)⟩
  refine wpS_bind (wpS_elem hka (wpS_bind (wpS_gallopL (base := sa + na) (n := nb) (hint := nb - 1) hc hB1 (hB.memAt hka) hin (by omega) (by omega) sB fun t ht ht1 ht2 => ?_)))
  dsimp only
  have ka_ge : ∀ c ∈ (seg (arrOf st).toList sa na).drop k, r c ≤ r ka := fun c hcm => by
    have hkl : (seg (arrOf st).toList sa na)[na - 1]? = some ka := by
      unfold seg
      rw [List.getElem?_take, if_pos (by omega), List.getElem?_drop, Array.getElem?_toList]
      rw [← hka]; congr 1; omega
    obtain ⟨j, hj⟩ := List.mem_iff_getElem?.mp hcm
    rw [List.getElem?_drop] at hj
    have hjl := (List.getElem?_eq_some_iff.mp hj).1
    have hlen : (seg (arrOf st).toList sa na).length ≤ na := by unfold seg; rw [List.length_take]; omega
    by_cases hje : k + j = na - 1
    · rw [hje, hkl] at hj; cases hj; exact Nat.le_refl _
    · obtain ⟨q1, q2⟩ := List.getElem?_eq_some_iff.mp hkl
      obtain ⟨q3, q4⟩ := List.getElem?_eq_some_iff.mp hj
      have := List.pairwise_iff_getElem.mp sA (k + j) (na - 1) q3 q1 (by omega)
      rw [q2, q4] at this
      exact this
  by_cases ht0 : t = 0
  · rw [if_pos (by simpa using ht0)]
    subst ht0
    refine wpS_pure (h _ hB1 hpend ?_ fun _ _ _ => rfl)
    show Runs r (arrOf st).toList 0 (((pendingOf st).setIfInBounds i (sa, na + nb, pa)).eraseIdxIfInBounds (i + 1)).toList lo
    rw [hpend]
    refine Runs.merge hRp (fun _ _ _ => rfl) (fun _ _ _ => rfl) ?_
    have e : seg (arrOf st).toList sa (na + nb) = seg (arrOf st).toList sa na ++ seg (arrOf st).toList (sa + na) nb := by
      unfold seg
      rw [List.take_add, List.drop_drop]
    rw [e]
    rw [List.drop_zero] at ht2
    have eA : seg (arrOf st).toList sa k ++ (seg (arrOf st).toList sa na).drop k = seg (arrOf st).toList sa na := by
      unfold seg
      have := List.take_append_drop k (((arrOf st).toList.drop sa).take na)
      rwa [List.take_take, Nat.min_eq_left hk] at this
    refine List.pairwise_append.mpr ⟨sA, sB, fun x hx y hy => ?_⟩
    rw [← eA] at hx
    rcases List.mem_append.mp hx with hx | hx
    · exact Nat.le_trans (hk1 x hx) (kb_le y hy)
    · exact Nat.le_trans (ka_ge x hx) (ht2 y hy)
  rw [if_neg (by simpa using ht0)]
  -- the two parts
  have ex : ((arrOf st).extract (sa + k) (sa + na)).toList = (seg (arrOf st).toList sa na).drop k := by
    rw [ext_mid]
    unfold seg
    rw [List.drop_take, List.drop_take, List.drop_drop]
    congr 1
    omega
  have ey : ((arrOf st).extract (sa + na) (sa + na + t)).toList = seg (arrOf st).toList (sa + na) t := ext_take _ _ _
  have sx : Srt r ((arrOf st).extract (sa + k) (sa + na)).toList := by rw [ex]; exact sA.sublist (List.drop_sublist _ _)
  have sy : Srt r ((arrOf st).extract (sa + na) (sa + na + t)).toList := by
    rw [ey]
    have : seg (arrOf st).toList (sa + na) t = (seg (arrOf st).toList (sa + na) nb).take t := by unfold seg; rw [List.take_take, Nat.min_eq_left ht]
    rw [this]; exact sB.sublist (List.take_sublist _ _)
  have lx : ((arrOf st).extract (sa + k) (sa + na)).toList.length = na - k := by rw [ex]; unfold seg; rw [List.length_drop, List.length_take, List.length_drop]; omega
  have ly : ((arrOf st).extract (sa + na) (sa + na + t)).toList.length = t := by rw [ey]; unfold seg; rw [List.length_take, List.length_drop]; omega
  have zx : 1 ≤ ((arrOf st).extract (sa + k) (sa + na)).size := by rw [← Array.length_toList, lx]; omega
  have zy : 1 ≤ ((arrOf st).extract (sa + na) (sa + na + t)).size := by rw [← Array.length_toList, ly]; omega
  have inx : ∀ p ∈ ((arrOf st).extract (sa + k) (sa + na)).toList, p ∈ a₀.toList := fun p hpm => by
    rw [ex] at hpm
    exact hin p (List.mem_of_mem_drop (List.mem_of_mem_take (List.mem_of_mem_drop hpm)))
  have iny : ∀ p ∈ ((arrOf st).extract (sa + na) (sa + na + t)).toList, p ∈ a₀.toList := fun p hpm => by
    rw [ey] at hpm
    exact hin p (List.mem_of_mem_drop (List.mem_of_mem_take hpm))
  have yfirst : ∀ y, ((arrOf st).extract (sa + na) (sa + na + t)).toList[0]? = some y → y = kb := fun y hy => by
    rw [ey] at hy
    unfold seg at hy
    rw [List.getElem?_take, if_pos (by omega), List.getElem?_drop, Nat.add_zero, Array.getElem?_toList, hkb] at hy
    cases hy; rfl
  have finish : ∀ (out : Array Keyed) (st' : SortSt), Mg r ((arrOf st).extract (sa + k) (sa + na)).toList ((arrOf st).extract (sa + na) (sa + na + t)).toList out.toList →
      Gl a₀ k0 (SortSt.mk' (kindOf st) (arrOf st) (((pendingOf st).setIfInBounds i (sa, na + nb, pa)).eraseIdxIfInBounds (i + 1)) (gallopOf st) (failedOf st)) st' →
      Q (failedOf st').isNone (SortSt.mk' (kindOf st') (out.toList.zipIdx.foldl (fun a (p : Keyed × Nat) => a.setIfInBounds (sa + k + p.2) p.1) (arrOf st')) (pendingOf st') (gallopOf st') (failedOf st')) := by
    intro out st' hM hG
    have harr : arrOf st' = arrOf st := hG.arr
    have hpd : (pendingOf st').toList = pre ++ (sa, na + nb, pa) :: post := by rw [hG.pend]; exact hpend
    have hlM : out.toList.length = na - k + t := by rw [hM.perm.length_eq, List.length_append, lx, ly]
    have hfn : (failedOf st').isNone = true := by rw [hG.base.failed]; rfl
    rw [hfn]
    have hnew : (out.toList.zipIdx.foldl (fun a (p : Keyed × Nat) => a.setIfInBounds (sa + k + p.2) p.1) (arrOf st')).toList = (arrOf st).toList.take (sa + k) ++ out.toList ++ (arrOf st).toList.drop (sa + na + t) := by
      rw [harr, over_list _ _ _ (by omega), hlM]
      congr 2
      omega
    refine h _ ⟨?_, hG.base.kind, hG.base.failed⟩ hpd ?_ fun j n hj => ?_
    · refine Array.Perm.trans ?_ hB.perm
      rw [Array.perm_iff_toList_perm]
      show (out.toList.zipIdx.foldl (fun a (p : Keyed × Nat) => a.setIfInBounds (sa + k + p.2) p.1) (arrOf st')).toList.Perm (arrOf st).toList
      rw [hnew]
      have hl3 : (arrOf st).toList = (arrOf st).toList.take (sa + k) ++ (((arrOf st).extract (sa + k) (sa + na)).toList ++ ((arrOf st).extract (sa + na) (sa + na + t)).toList) ++ (arrOf st).toList.drop (sa + na + t) := by
        rw [ext_mid, ext_mid, ← List.append_assoc, take_split _ (by omega), take_split _ (by omega), List.take_append_drop]
      conv => rhs; rw [hl3]
      exact ((hM.perm.append_left _).append_right _)
    · show Runs r (out.toList.zipIdx.foldl (fun a (p : Keyed × Nat) => a.setIfInBounds (sa + k + p.2) p.1) (arrOf st')).toList 0 (pendingOf st').toList lo
      rw [hnew, hpd]
      refine Runs.merge hRp (fun j n hj => ?_) (fun j n hj => ?_) ?_
      · exact seg_low (by omega) j n (by omega)
      · exact seg_high (by omega) (by omega) j n (by omega)
      · have := seg_mid (l := (arrOf st).toList) (M := out.toList) (sa := sa) (k := k) (i0 := sa + k) (j0 := sa + na + t) (t := nb - t) rfl (by omega) (by omega)
        rw [show k + out.toList.length + (nb - t) = na + nb by omega] at this
        rw [this]
        refine merged_srt sA sB hk ht hk1 ka_ge kb_le ht2 ?_
        rw [← ex, ← ey]
        exact hM
    · show seg (out.toList.zipIdx.foldl (fun a (p : Keyed × Nat) => a.setIfInBounds (sa + k + p.2) p.1) (arrOf st')).toList j n = _
      rw [hnew]
      exact seg_high (by omega) (by omega) j n (by omega)
  by_cases hle : na - k ≤ t
  · rw [if_pos hle]
    refine wpS_bind (wpS_mergeLo hc hB1 inx iny sx sy zx zy ?_ ?_ fun out st' hM hG => wpS_bind (wpS_modify (wpS_bind (wpS_get (wpS_pure (finish out st' hM hG))))))
    · intro x y hx hy
      have hyk := yfirst y (by rw [Array.getElem?_toList]; exact hy)
      subst hyk
      have : x ∈ ((arrOf st).extract (sa + k) (sa + na)).toList := Array.mem_toList_iff.mpr (Array.mem_of_getElem? hx)
      rw [ex] at this
      exact Nat.le_of_lt (hk2 x this)
    · intro x hx y hy
      rw [ey] at hy
      have hxk : x = ka := by
        rw [lx, ext_mid, List.getElem?_drop, List.getElem?_take] at hx
        rw [if_pos (by omega), Array.getElem?_toList] at hx
        rw [show sa + k + (na - k - 1) = sa + k + (na - k) - 1 by omega, hka] at hx
        cases hx; rfl
      subst hxk
      exact Nat.le_of_lt (ht1 y hy)
  · rw [if_neg hle]
    refine wpS_bind (wpS_mergeHi hc hB1 inx iny sx sy zx zy ?_ ?_ fun out st' hM hG => wpS_bind (wpS_modify (wpS_bind (wpS_get (wpS_pure (finish out st' hM hG))))))
    · intro y hy x hx
      obtain ⟨j, hj⟩ := List.mem_iff_getElem?.mp hy
      rw [List.getElem?_take] at hj
      split at hj
      · rename_i hj1
        obtain rfl : j = 0 := by omega
        have := yfirst y hj
        subst this
        rw [ex] at hx
        exact Nat.le_of_lt (hk2 x hx)
      · cases hj
    · intro x hx y hy
      rw [ey] at hy
      obtain ⟨j, hj⟩ := List.mem_iff_getElem?.mp hx
      rw [List.getElem?_drop, ← Array.length_toList, lx] at hj
      have hjl := (List.getElem?_eq_some_iff.mp hj).1
      rw [lx] at hjl
      obtain rfl : j = 0 := by omega
      have hxk : x = ka := by
        rw [Nat.add_zero, ext_mid, List.getElem?_drop, List.getElem?_take, if_pos (by omega), Array.getElem?_toList] at hj
        rw [show sa + k + (na - k - 1) = sa + k + (na - k) - 1 by omega, hka] at hj
        cases hj; rfl
      subst hxk
      exact Nat.le_of_lt (ht1 y hy)
end TS
namespace TS
open PySem PyProof.Rows
variable {prog : Program} {w : World} {A : Around} {E : Value → Shared → Prop} {s : Shared} {a₀ : Array Keyed} {r : Keyed → Nat} {k0 : SortKind}
theorem srt_of_up {xs : Array Keyed} {i n : Nat} (h : Up r xs i (i + n)) : Srt r (seg xs.toList i n) := by
  rw [Srt, List.pairwise_iff_getElem]
  intro j k hj hk hjk
  have e1 : (seg xs.toList i n)[j]? = some (seg xs.toList i n)[j] := List.getElem?_eq_getElem hj
  have e2 : (seg xs.toList i n)[k]? = some (seg xs.toList i n)[k] := List.getElem?_eq_getElem hk
  have hkn : k < n := by unfold seg at hk; rw [List.length_take] at hk; omega
  have f1 : xs.toList[i + j]? = some (seg xs.toList i n)[j] := by
    rw [← e1]; unfold seg; rw [List.getElem?_take, if_pos (by omega), List.getElem?_drop]
  have f2 : xs.toList[i + k]? = some (seg xs.toList i n)[k] := by
    rw [← e2]; unfold seg; rw [List.getElem?_take, if_pos (by omega), List.getElem?_drop]
  have := h (i + j) (i + k) (by omega) (by omega) (by omega)
  rw [Rk_list f1, Rk_list f2] at this
  exact this
theorem seg_same {xs ys : Array Keyed} {lo : Nat} (h : ∀ k, k < lo → ys[k]? = xs[k]?) (i n : Nat) (hi : i + n ≤ lo) : seg ys.toList i n = seg xs.toList i n := by
  refine List.ext_getElem? fun k => ?_
  unfold seg
  rw [List.getElem?_take, List.getElem?_take]
  split
  · rw [List.getElem?_drop, List.getElem?_drop, Array.getElem?_toList, Array.getElem?_toList]
    exact h _ (by omega)
  · rfl
theorem two_of {p : List (Nat × Nat × Nat)} {i : Nat} (h : i + 1 < p.length) : ∃ pre sa na pa sb nb pb post, p = pre ++ (sa, na, pa) :: (sb, nb, pb) :: post ∧ pre.length = i := by
  refine ⟨p.take i, p[i].1, p[i].2.1, p[i].2.2, p[i + 1].1, p[i + 1].2.1, p[i + 1].2.2, p.drop (i + 2), ?_, by rw [List.length_take]; omega⟩
  have e1 := List.drop_eq_getElem_cons (show i < p.length by omega)
  have e2 := List.drop_eq_getElem_cons h
  show p = p.take i ++ p[i] :: p[i + 1] :: p.drop (i + 2)
  rw [← e2, ← e1, List.take_append_drop]
theorem Runs.last {l : List Keyed} : ∀ {p : List (Nat × Nat × Nat)} {b lo : Nat} {f : Nat × Nat × Nat → Nat × Nat × Nat}, Runs r l b p lo → (∀ x, (f x).1 = x.1 ∧ (f x).2.1 = x.2.1) → ∀ i, Runs r l b (p.modify i f) lo
  | [], _, _, _, h, _, i => by cases i <;> simpa using h
  | (st, n, q) :: rest, b, lo, f, h, hf, 0 => by
    rw [Runs] at h
    rw [List.modify_zero_cons]
    obtain ⟨e1, e2⟩ := hf (st, n, q)
    generalize f (st, n, q) = y at *
    obtain ⟨y1, y2, y3⟩ := y
    simp only at e1 e2
    subst e1; subst e2
    exact h
  | (st, n, q) :: rest, b, lo, f, h, hf, i + 1 => by
    rw [Runs] at h
    rw [List.modify_succ_cons]
    exact ⟨h.1, h.2.1, h.2.2.1, Runs.last h.2.2.2 hf i⟩
theorem wpS_sortRuns (hc : CmpOk prog w A s a₀ r k0) {st : SortSt} (hB : SB a₀ k0 st) (hp : pendingOf st = #[]) {Q : Unit → SortSt → Prop} (h : ∀ st', SB a₀ k0 st' → Srt r (arrOf st').toList → Q () st') : wpS (model prog w) A E s sortRuns' Q st := by
  have hsz := hB.size
  unfold sortRuns'
  refine wpS_bind (wpS_get ?_)
  dsimp only
  rw [show (arrOf st).size = a₀.size from hsz]
  refine wpS_bind (wpS_mono (wpS_forRange (I := fun x c st' => ∃ lo, c = (none, lo) ∧ SB a₀ k0 st' ∧ lo ≤ a₀.size ∧ (x ≤ lo ∨ lo = a₀.size) ∧ Runs r (arrOf st').toList 0 (pendingOf st').toList lo)
    (Q := fun c st' => c = (none, a₀.size) ∧ SB a₀ k0 st' ∧ Runs r (arrOf st').toList 0 (pendingOf st').toList a₀.size) ?_ ?_ ⟨0, rfl, hB, by omega, .inl (by omega), by rw [hp]; rfl⟩) ?_)
  rotate_left
  · rintro c st' ⟨lo, rfl, hB', h1, h2, hR⟩
    obtain rfl : lo = a₀.size := by omega
    exact ⟨rfl, hB', hR⟩
  · rintro c st' ⟨rfl, hB', hR⟩
    dsimp only
    refine wpS_bind (wpS_mono (wpS_forRange (I := fun x c st' => c = (none, ()) ∧ SB a₀ k0 st' ∧ Runs r (arrOf st').toList 0 (pendingOf st').toList a₀.size ∧ ((pendingOf st').size ≤ 1 ∨ (pendingOf st').size + x ≤ a₀.size))
      (Q := fun c st' => c = (none, ()) ∧ SB a₀ k0 st' ∧ Runs r (arrOf st').toList 0 (pendingOf st').toList a₀.size ∧ (pendingOf st').size ≤ 1) ?_ ?_ ⟨rfl, hB', hR, .inr (by have := hR.le; rw [Array.length_toList] at this; omega)⟩) ?_)
    · rintro x c st1 _ _ ⟨rfl, hB1, hR1, hps⟩
      refine wpS_bind (wpS_get ?_)
      by_cases hle : (pendingOf st1).size ≤ 1
      · rw [if_pos hle]
        exact wpS_pure ⟨rfl, hB1, hR1, hle⟩
      rw [if_neg hle]
      have hpl : (pendingOf st1).toList.length = (pendingOf st1).size := Array.length_toList
      have go : ∀ i, i + 1 < (pendingOf st1).size → wpS (model prog w) A E s (mergeAt' i) (fun b st2 => b = true ∧ SB a₀ k0 st2 ∧ Runs r (arrOf st2).toList 0 (pendingOf st2).toList a₀.size ∧ (pendingOf st2).size + 1 = (pendingOf st1).size) st1 := by
        intro i hi
        obtain ⟨pre, sa, na, pa, sb, nb, pb, post, e, hpre⟩ := two_of (p := (pendingOf st1).toList) (i := i) (by omega)
        refine wpS_mergeAt hc hB1 e hpre (Nat.le_refl _) hR1 fun st2 hB2 hp2 hR2 _ => ⟨rfl, hB2, hR2, ?_⟩
        have e2 : (pendingOf st2).size = (pre ++ (sa, na + nb, pa) :: post).length := by rw [← hp2, Array.length_toList]
        rw [e2, ← hpl, e]
        simp only [List.length_append, List.length_cons]
        omega
      have ix : ∀ (c : Prop) [Decidable c], (if c then (pendingOf st1).size - 2 - 1 else (pendingOf st1).size - 2) + 1 < (pendingOf st1).size := by
        intro c _
        split <;> omega
      refine wpS_bind (wpS_mono (go _ ?_) ?_)
      · split <;> exact ix _
      · rintro b st2 ⟨rfl, hB2, hR2, hs2⟩
        rw [if_neg (by decide)]
        exact wpS_pure ⟨rfl, hB2, hR2, by omega⟩
    · rintro c st1 ⟨rfl, hB1, hR1, hps⟩
      refine ⟨rfl, hB1, hR1, ?_⟩
      omega
    · rintro c st1 ⟨rfl, hB1, hR1, hps⟩
      refine wpS_pure (h st1 hB1 ?_)
      have hl : (arrOf st1).toList.length = a₀.size := by rw [Array.length_toList]; exact hB1.size
      have hpl : (pendingOf st1).toList.length = (pendingOf st1).size := Array.length_toList
      cases hq : (pendingOf st1).toList with
      | nil =>
        rw [hq, Runs] at hR1
        have : (arrOf st1).toList = [] := List.eq_nil_of_length_eq_zero (by omega)
        rw [this]; exact List.Pairwise.nil
      | cons q rest =>
        have : rest = [] := by
          rw [hq, List.length_cons] at hpl
          exact List.eq_nil_of_length_eq_zero (by omega)
        subst this
        obtain ⟨q1, q2, q3⟩ := q
        rw [hq, Runs, Runs] at hR1
        obtain ⟨rfl, _, g1, g2⟩ := hR1
        unfold seg at g1
        rw [List.drop_zero, List.take_of_length_le (by omega)] at g1
        exact g1
  rintro x c st1 _ hx ⟨lo, rfl, hB1, h1, h2, hR1⟩
  dsimp only
  by_cases hge : lo ≥ a₀.size
  · rw [if_pos hge]
    obtain rfl : lo = a₀.size := by omega
    exact wpS_pure ⟨rfl, hB1, hR1⟩
  rw [if_neg hge]
  refine wpS_bind (wpS_countRun hc hB1 (lo := lo) (nrem := a₀.size - lo) (by omega) (by omega) fun m st2 hm1 hm2 hK2 hU2 => ?_)
  dsimp only
  have hR2 : Runs r (arrOf st2).toList 0 (pendingOf st2).toList lo := by
    rw [hK2.pend]
    exact hR1.same fun i n _ hi => seg_same hK2.low i n hi
  generalize (sortPriv% PySem.Builtin.minRun) a₀.size a₀.size 0 = mr
  by_cases hmr : m < mr
  case' pos =>
    rw [if_pos hmr]
    refine wpS_bind (wpS_lift (wpAny_rule ⟨rfl, ?_⟩))
    refine wpS_bind (wpS_binarySort hc hK2.base (lo := lo) (n := min (a₀.size - lo) mr) (ok := m) (by omega) (by omega) hU2 fun st3 hK3 hU3 => ?_)
    rw [if_neg (by decide)]
    have hn1 : 1 ≤ min (a₀.size - lo) mr := by omega
    have hn2 : lo + min (a₀.size - lo) mr ≤ a₀.size := by omega
    have hS3 := srt_of_up hU3
    have hB3 := hK3.base
    have hR3 : Runs r (arrOf st3).toList 0 (pendingOf st3).toList lo := by
      rw [hK3.pend]
      exact hR2.same fun i n _ hi => seg_same hK3.low i n hi
    clear hU3 hK3
    generalize min (a₀.size - lo) mr = n at *
  case' neg =>
    rw [if_neg hmr]
    have hn1 : 1 ≤ m := hm1
    have hn2 : lo + m ≤ a₀.size := by omega
    have hS3 := srt_of_up hU2
    have hB3 := hK2.base
    have hR3 := hR2
    clear hU2 hK2 hR2
    generalize m = n at *
    generalize st2 = st3 at *
  all_goals
    have fin : ∀ st4, SB a₀ k0 st4 → Runs r (arrOf st4).toList 0 (pendingOf st4).toList lo → Srt r (seg (arrOf st4).toList lo n) → ∃ lo', ((none : Option Unit), lo + n) = (none, lo') ∧ SB a₀ k0 (setPending st4 ((pendingOf st4).push (lo, n, 0))) ∧ lo' ≤ a₀.size ∧ (x + 1 ≤ lo' ∨ lo' = a₀.size) ∧ Runs r (arrOf st4).toList 0 ((pendingOf st4).push (lo, n, 0)).toList lo' := by
      intro st4 hB4 hR4 hS4
      refine ⟨lo + n, rfl, ⟨hB4.perm, hB4.kind, hB4.failed⟩, hn2, .inl (by omega), ?_⟩
      rw [Array.toList_push]
      exact hR4.snoc hn1 hS4
    refine wpS_bind (wpS_get ?_)
    cases hbk : (pendingOf st3).back? with
    | none =>
      dsimp only
      exact wpS_bind (wpS_modify (wpS_pure (fin st3 hB3 hR3 hS3)))
    | some q =>
      obtain ⟨s1, n1, p1⟩ := q
      dsimp only
      refine wpS_bind (wpS_mono (wpS_forRange (I := fun _ c st' => c = (none, ()) ∧ SB a₀ k0 st' ∧ Runs r (arrOf st').toList 0 (pendingOf st').toList lo ∧ Srt r (seg (arrOf st').toList lo n))
        (Q := fun c st' => c = (none, ()) ∧ SB a₀ k0 st' ∧ Runs r (arrOf st').toList 0 (pendingOf st').toList lo ∧ Srt r (seg (arrOf st').toList lo n)) ?_ (fun _ _ z => z) ⟨rfl, hB3, hR3, hS3⟩) ?_)
      · rintro y c st4 _ _ ⟨rfl, hB4, hR4, hS4⟩
        refine wpS_bind (wpS_get ?_)
        by_cases hgt : (pendingOf st4).size > 1
        · rw [if_pos hgt]
          have hpl : (pendingOf st4).toList.length = (pendingOf st4).size := Array.length_toList
          obtain ⟨pre, sa, na, pa, sb, nb, pb, post, e, hpre⟩ := two_of (p := (pendingOf st4).toList) (i := (pendingOf st4).size - 2) (by omega)
          have eg : (pendingOf st4)[(pendingOf st4).size - 2]? = some (sa, na, pa) := by
            rw [← Array.getElem?_toList, e, List.getElem?_append_right (by omega), hpre, Nat.sub_self]; rfl
          rw [eg]
          dsimp only
          split
          · exact wpS_pure ⟨rfl, hB4, hR4, hS4⟩
          · refine wpS_bind (wpS_mergeAt hc hB4 e hpre h1 hR4 fun st5 hB5 hp5 hR5 hseg => ?_)
            rw [if_neg (by decide)]
            exact wpS_pure ⟨rfl, hB5, hR5, by rw [hseg lo n (Nat.le_refl _)]; exact hS4⟩
        · rw [if_neg hgt]
          exact wpS_pure ⟨rfl, hB4, hR4, hS4⟩
      · rintro c st4 ⟨rfl, hB4, hR4, hS4⟩
        dsimp only
        refine wpS_bind (wpS_modify (wpS_bind (wpS_modify (wpS_pure (fin (setPending st4 ((pendingOf st4).modify ((pendingOf st4).size - 1) fun x => (x.1, x.2.1, _))) ⟨hB4.perm, hB4.kind, hB4.failed⟩ ?_ hS4)))))
        show Runs r (arrOf st4).toList 0 ((pendingOf st4).modify _ _).toList lo
        rw [Array.toList_modify]
        refine Runs.last hR4 ?_ _
        exact fun x => ⟨rfl, rfl⟩
end TS
namespace TF
open PySem PySem.Spec L2
open PyProof.Rows hiding St RelV
mutual
noncomputable def cmpD (st : Bool) : Dat → Dat → Bool
  | .int a, .int b => if st then decide (a < b) else decide (a ≤ b)
  | .tup l, .tup m => cmpL st l m
  | _, _ => false
noncomputable def cmpL (st : Bool) : List Dat → List Dat → Bool
  | [], [] => !st
  | [], _ :: _ => true
  | _ :: _, [] => false
  | x :: l, y :: m => if eqD x y then cmpL st l m else cmpD st x y
end
noncomputable def ordC : Nat → Dat → Dat → Bool
  | _, .int _, .int _ => true
  | n + 1, .tup l, .tup m => (l.zip m).all fun p => ordC n p.1 p.2
  | _, _, _ => false
noncomputable abbrev opOf (st : Bool) : CmpOp := if st then .Lt else .LtE
noncomputable def LtAt (st : Bool) (A : Around) (s : Shared) (u v : Value) (b : Bool) : Prop :=
  ∀ (prog : Program) (w : World) (E : Value → Shared → Prop) (Q : Value → Shared → Prop), Q (.bool b) s → wpAny (model prog w) A (richCompare (opOf st) u v) Q E s
section
open PySem.SeqAt
open PySem.AutoSeq1 (wpAny_loadPart')
open PySem.MeetsSeq PySem.MeetsSeq2 PySem.MeetsSeq3
inductive Prs (A : Around) (s : Shared) (st : Bool) : List Dat → List Dat → List Value → List Value → Prop
  | nilL {m ws} (h : ws.length = m.length) : Prs A s st [] m [] ws
  | nilR {l vs} (h : vs.length = l.length) : Prs A s st l [] vs []
  | cons {x y l m u v vs ws} (he : EqAt A s u v (eqD x y)) (hl : LtAt st A s u v (cmpD st x y)) (t : Prs A s st l m vs ws) : Prs A s st (x :: l) (y :: m) (u :: vs) (v :: ws)
theorem tuple_lt_D (l b : Addr) (items items2 : Array Value) (n n2 : Nat) (dd dd2 : Option Addr) (sl sl2 : Array (Option Value)) (ds es : List Dat) :
    Meets (Builtin.«tuple.__lt__» ⟨[.ref l, .ref b], []⟩)
      (fun A R s => Prs A.in1 s true ds es items.toList items2.toList ∧ ds.length = items.size ∧ es.length = items2.size ∧ s.heap.get? l = some { cls := .type "tuple", dict := dd, data := .seq items n, slots := sl } ∧ s.heap.get? b = some { cls := .type "tuple", dict := dd2, data := .seq items2 n2, slots := sl2 } ∧
        R (.ok (.ret (.bool (cmpL true ds es)))) s) :=
  .of_wp fun prog w A R s h => by
    obtain ⟨hp, g, d, tk, os⟩ := s; obtain ⟨hP, z1, z2, hl, hb, h⟩ := h
    have f2 := AutoSeq1.sub_tuple_tuple
    wp_walk using wpAny_loadPart' hl, wpAny_loadPart' hb, wpAny_forIn_list _ (fun rest b s' => b.1 = none ∧ s' = ⟨hp, g, d, tk, os⟩ ∧ ∃ (vs ws : List Value) (ds' es' : List Dat), rest = vs.zip ws ∧
      Prs A.in1 ⟨hp, g, d, tk, os⟩ true ds' es' vs ws ∧ ds'.length + items2.size = es'.length + items.size ∧ R (.ok (.ret (.bool (cmpL true ds' es')))) ⟨hp, g, d, tk, os⟩) _
    case turn =>
      rintro ⟨y, x⟩ rest b s' ⟨hb', rfl, vs, ws, ds', es', hz, hP', hlen, hR⟩
      cases hP' with
      | nilL hq => rw [List.zip_nil_left] at hz; cases hz
      | nilR hq => rw [List.zip_nil_right] at hz; cases hz
      | @cons dx dy l' m' u v vs' ws' he hlt hP2 =>
        rw [List.zip_cons_cons] at hz
        injection hz with hyx hrest
        injection hyx with hy hx
        subst hy hx
        rw [cmpL] at hR
        simp only [List.length_cons] at hlen
        refine wpAny_bind (he prog w _ _ ?_)
        cases hq : eqD dx dy with
        | true =>
          rw [hq, if_pos rfl] at hR
          wp_walk
          exact ⟨rfl, rfl, _, _, _, _, hrest, hP2, by omega, hR⟩
        | false =>
          rw [hq, if_neg (by decide)] at hR
          have hri : ∀ (E : Value → Shared → Prop) (Q : Value → Shared → Prop), Q (.bool (cmpD true dx dy)) ⟨hp, g, d, tk, os⟩ → wpAny (model prog w) A.in1 (richCompare .Lt y x) Q E ⟨hp, g, d, tk, os⟩ := hlt prog w
          wp_walk using hri
          exact ⟨_, rfl, by simpa using hR⟩
    case fin =>
      rintro ⟨b1, b2⟩ s' ⟨hb', rfl, vs, ws, ds', es', hz, hP', hlen, hR⟩
      simp only at hb'
      subst hb'
      have hv : cmpL true ds' es' = decide (items.size < items2.size) := by
        cases hP' with
        | nilL hq =>
          cases es' with
          | nil =>
            simp only [List.length_nil] at hlen
            rw [cmpL]
            exact (decide_eq_false (by omega)).symm
          | cons y m =>
            simp only [List.length_nil, List.length_cons] at hlen
            rw [cmpL]
            exact (decide_eq_true (by omega)).symm
        | nilR hq =>
          cases ds' with
          | nil =>
            simp only [List.length_nil] at hlen
            rw [cmpL]
            exact (decide_eq_false (by omega)).symm
          | cons y m =>
            simp only [List.length_nil, List.length_cons] at hlen
            rw [cmpL]
            exact (decide_eq_false (by omega)).symm
        | cons he hlt hP2 => rw [List.zip_cons_cons] at hz; cases hz
      rw [hv] at hR
      wp_walk
      exact ⟨_, rfl, by simpa [Builtin.Tuple.tupleCompareSizes] using hR⟩
    case h =>
      exact ⟨rfl, rfl, items.toList, items2.toList, ds, es, rfl, hP, by omega, h⟩
theorem tuple_le_D (l b : Addr) (items items2 : Array Value) (n n2 : Nat) (dd dd2 : Option Addr) (sl sl2 : Array (Option Value)) (ds es : List Dat) :
    Meets (Builtin.«tuple.__le__» ⟨[.ref l, .ref b], []⟩)
      (fun A R s => Prs A.in1 s false ds es items.toList items2.toList ∧ ds.length = items.size ∧ es.length = items2.size ∧ s.heap.get? l = some { cls := .type "tuple", dict := dd, data := .seq items n, slots := sl } ∧ s.heap.get? b = some { cls := .type "tuple", dict := dd2, data := .seq items2 n2, slots := sl2 } ∧
        R (.ok (.ret (.bool (cmpL false ds es)))) s) :=
  .of_wp fun prog w A R s h => by
    obtain ⟨hp, g, d, tk, os⟩ := s; obtain ⟨hP, z1, z2, hl, hb, h⟩ := h
    have f2 := AutoSeq1.sub_tuple_tuple
    wp_walk using wpAny_loadPart' hl, wpAny_loadPart' hb, wpAny_forIn_list _ (fun rest b s' => b.1 = none ∧ s' = ⟨hp, g, d, tk, os⟩ ∧ ∃ (vs ws : List Value) (ds' es' : List Dat), rest = vs.zip ws ∧
      Prs A.in1 ⟨hp, g, d, tk, os⟩ false ds' es' vs ws ∧ ds'.length + items2.size = es'.length + items.size ∧ R (.ok (.ret (.bool (cmpL false ds' es')))) ⟨hp, g, d, tk, os⟩) _
    case turn =>
      rintro ⟨y, x⟩ rest b s' ⟨hb', rfl, vs, ws, ds', es', hz, hP', hlen, hR⟩
      cases hP' with
      | nilL hq => rw [List.zip_nil_left] at hz; cases hz
      | nilR hq => rw [List.zip_nil_right] at hz; cases hz
      | @cons dx dy l' m' u v vs' ws' he hlt hP2 =>
        rw [List.zip_cons_cons] at hz
        injection hz with hyx hrest
        injection hyx with hy hx
        subst hy hx
        rw [cmpL] at hR
        simp only [List.length_cons] at hlen
        refine wpAny_bind (he prog w _ _ ?_)
        cases hq : eqD dx dy with
        | true =>
          rw [hq, if_pos rfl] at hR
          wp_walk
          exact ⟨rfl, rfl, _, _, _, _, hrest, hP2, by omega, hR⟩
        | false =>
          rw [hq, if_neg (by decide)] at hR
          have hri : ∀ (E : Value → Shared → Prop) (Q : Value → Shared → Prop), Q (.bool (cmpD false dx dy)) ⟨hp, g, d, tk, os⟩ → wpAny (model prog w) A.in1 (richCompare .LtE y x) Q E ⟨hp, g, d, tk, os⟩ := hlt prog w
          wp_walk using hri
          exact ⟨_, rfl, by simpa using hR⟩
    case fin =>
      rintro ⟨b1, b2⟩ s' ⟨hb', rfl, vs, ws, ds', es', hz, hP', hlen, hR⟩
      simp only at hb'
      subst hb'
      have hv : cmpL false ds' es' = decide (items.size ≤ items2.size) := by
        cases hP' with
        | nilL hq =>
          cases es' with
          | nil =>
            simp only [List.length_nil] at hlen
            rw [cmpL]
            exact (decide_eq_true (by omega)).symm
          | cons y m =>
            simp only [List.length_nil, List.length_cons] at hlen
            rw [cmpL]
            exact (decide_eq_true (by omega)).symm
        | nilR hq =>
          cases ds' with
          | nil =>
            simp only [List.length_nil] at hlen
            rw [cmpL]
            exact (decide_eq_true (by omega)).symm
          | cons y m =>
            simp only [List.length_nil, List.length_cons] at hlen
            rw [cmpL]
            exact (decide_eq_false (by omega)).symm
        | cons he hlt hP2 => rw [List.zip_cons_cons] at hz; cases hz
      rw [hv] at hR
      wp_walk
      exact ⟨_, rfl, by simpa [Builtin.Tuple.tupleCompareSizes] using hR⟩
    case h =>
      exact ⟨rfl, rfl, items.toList, items2.toList, ds, es, rfl, hP, by omega, h⟩
theorem prs_of {A : Around} {s : Shared} {st : Bool} : ∀ {l m : List Dat} {vs ws : List Value}, vs.length = l.length → ws.length = m.length →
    (∀ (i : Nat) x y u v, l[i]? = some x → m[i]? = some y → vs[i]? = some u → ws[i]? = some v → EqAt A s u v (eqD x y) ∧ LtAt st A s u v (cmpD st x y)) → Prs A s st l m vs ws
  | [], m, vs, ws, h1, h2, _ => by
    obtain rfl := List.eq_nil_of_length_eq_zero h1
    exact .nilL h2
  | _ :: _, [], vs, ws, h1, h2, _ => by
    obtain rfl := List.eq_nil_of_length_eq_zero h2
    exact .nilR h1
  | x :: l, y :: m, [], _, h1, _, _ => by simp at h1
  | x :: l, y :: m, _ :: _, [], _, h2, _ => by simp at h2
  | x :: l, y :: m, u :: vs, v :: ws, h1, h2, h => by
    obtain ⟨a, b⟩ := h 0 x y u v rfl rfl rfl rfl
    refine .cons a b (prs_of (by simpa using h1) (by simpa using h2) fun i x' y' u' v' g1 g2 g3 g4 => h (i + 1) x' y' u' v' (by simpa using g1) (by simpa using g2) (by simpa using g3) (by simpa using g4))
theorem ltAt_D {s : Shared} (st : Bool) : ∀ (n : Nat) {A : Around} {d e : Dat} {u v : Value}, ordC n d e = true → plainD n d = true → plainD n e = true → AtH s.heap d u → AtH s.heap e v → A.units + n < cLine → LtAt st A s u v (cmpD st d e)
  | n, A, .int a, .int b, u, v, ho, _, _, hd, he, hu => by
    rw [AtH] at hd he
    obtain ⟨t, rfl⟩ := hd
    obtain ⟨t', rfl⟩ := he
    intro prog w E Q h
    rw [cmpD] at h
    cases st with
    | true => exact (PyProof.Rows.lt_int h : wpAny (model prog w) A (compareOp .Lt (.int a t) (.int b t')) Q E s)
    | false => exact (PyProof.Rows.le_int h : wpAny (model prog w) A (compareOp .LtE (.int a t) (.int b t')) Q E s)
  | n + 1, A, .tup l, .tup m, u, v, ho, pd, pe, hd, he, hu => by
    rw [AtH] at hd he
    obtain ⟨a, is, rfl, ti, rl⟩ := hd
    obtain ⟨b, js, rfl, tj, rm⟩ := he
    rw [ordC, List.all_eq_true] at ho
    rw [plainD, List.all_eq_true] at pd pe
    have hP : Prs A.in1 s st l m is js := prs_of rl.length rm.length fun i x y u v g1 g2 g3 g4 => by
      obtain ⟨u', hu', ru⟩ := rl.get g1
      obtain ⟨v', hv', rv⟩ := rm.get g2
      rw [g3] at hu'
      rw [g4] at hv'
      cases hu'
      cases hv'
      have p1 := pd x (List.mem_of_getElem? g1)
      have p2 := pe y (List.mem_of_getElem? g2)
      have o1 := ho (x, y) (List.mem_of_getElem? (i := i) (by rw [List.getElem?_zip_eq_some]; exact ⟨g1, g2⟩))
      have hu2 : A.in1.units + n < cLine := by show A.units + 1 + n < cLine; omega
      exact ⟨(eqAt_D n p1 p2 ru rv hu2).1, ltAt_D st n o1 p1 p2 ru rv hu2⟩
    obtain ⟨⟨cls, dd, data, sl⟩, ho1, hc, n1, hd⟩ := id ti
    obtain ⟨⟨cls2, dd2, data2, sl2⟩, ho2, hc2, n2, hd2⟩ := id tj
    simp only at hc hd hc2 hd2
    subst hc hd hc2 hd2
    intro prog w E Q h
    rw [cmpD] at h
    have z1 : l.length = is.toArray.size := by rw [List.size_toArray, rl.length]
    have z2 : m.length = js.toArray.size := by rw [List.size_toArray, rm.length]
    cases st with
    | true =>
      exact richCompare_meets_room (op := .Lt) ⟨_, ho1, rfl⟩ ⟨_, ho2, rfl⟩ PySem.F.slot_tuple_lt PySem.F.entry_tuple_lt (PySem.F.args_tuple_lt_2 _ _) (tuple_lt_D a b is.toArray js.toArray n1 n2 dd dd2 sl sl2 l m)
        ⟨hP, z1, z2, ho1, ho2, show Value.bool (cmpL true l m) ≠ Value.notImplemented ∧ Q (.bool (cmpL true l m)) s from ⟨(fun x => nomatch x), h⟩⟩ (by omega)
    | false =>
      exact richCompare_meets_room (op := .LtE) ⟨_, ho1, rfl⟩ ⟨_, ho2, rfl⟩ PySem.F.slot_tuple_le PySem.F.entry_tuple_le (PySem.F.args_tuple_le_2 _ _) (tuple_le_D a b is.toArray js.toArray n1 n2 dd dd2 sl sl2 l m)
        ⟨hP, z1, z2, ho1, ho2, show Value.bool (cmpL false l m) ≠ Value.notImplemented ∧ Q (.bool (cmpL false l m)) s from ⟨(fun x => nomatch x), h⟩⟩ (by omega)
  | 0, _, .tup _, .tup _, _, _, ho, _, _, _, _, _ => by simp [ordC] at ho
  | _, _, .int _, .tup _, _, _, ho, _, _, _, _, _ => by simp [ordC] at ho
  | _, _, .tup _, .int _, _, _, ho, _, _, _, _, _ => by simp [ordC] at ho
  | _, _, .non, _, _, _, ho, _, _, _, _, _ => by simp [ordC] at ho
  | _, _, .bl _, _, _, _, ho, _, _, _, _, _ => by simp [ordC] at ho
  | _, _, .str _, _, _, _, ho, _, _, _, _, _ => by simp [ordC] at ho
  | _, _, .fn _, _, _, _, ho, _, _, _, _, _ => by simp [ordC] at ho
  | _, _, .scr _, _, _, _, ho, _, _, _, _, _ => by simp [ordC] at ho
  | _, _, .lst _, _, _, _, ho, _, _, _, _, _ => by simp [ordC] at ho
  | _, _, .int _, .non, _, _, ho, _, _, _, _, _ => by simp [ordC] at ho
  | _, _, .int _, .bl _, _, _, ho, _, _, _, _, _ => by simp [ordC] at ho
  | _, _, .int _, .str _, _, _, ho, _, _, _, _, _ => by simp [ordC] at ho
  | _, _, .int _, .fn _, _, _, ho, _, _, _, _, _ => by simp [ordC] at ho
  | _, _, .int _, .scr _, _, _, ho, _, _, _, _, _ => by simp [ordC] at ho
  | _, _, .int _, .lst _, _, _, ho, _, _, _, _, _ => by simp [ordC] at ho
  | _, _, .tup _, .non, _, _, ho, _, _, _, _, _ => by simp [ordC] at ho
  | _, _, .tup _, .bl _, _, _, ho, _, _, _, _, _ => by simp [ordC] at ho
  | _, _, .tup _, .str _, _, _, ho, _, _, _, _, _ => by simp [ordC] at ho
  | _, _, .tup _, .fn _, _, _, ho, _, _, _, _, _ => by simp [ordC] at ho
  | _, _, .tup _, .scr _, _, _, ho, _, _, _, _, _ => by simp [ordC] at ho
  | _, _, .tup _, .lst _, _, _, ho, _, _, _, _, _ => by simp [ordC] at ho
end
end TF
namespace TF
open PySem PySem.Spec L2
open PyProof.Rows hiding St RelV
open HT (lexLt)
mutual
theorem AtH.kept {h h' : Heap} (k : ∀ b o, h.get? b = some o → h'.get? b = some o) : ∀ {d : Dat} {u : Value}, AtH h d u → AtH h' d u
  | .non, _, r => by rw [AtH] at r ⊢; exact r
  | .bl _, _, r => by rw [AtH] at r ⊢; exact r
  | .int _, _, r => by rw [AtH] at r ⊢; exact r
  | .str _, _, r => by rw [AtH] at r ⊢; exact r
  | .fn _, _, r => by rw [AtH] at r ⊢; exact r
  | .scr _, _, r => by rw [AtH] at r; exact r.elim
  | .tup _, _, r => by
    rw [AtH] at r ⊢
    obtain ⟨a, its, h1, ⟨o, h2, h3⟩, h4⟩ := r
    exact ⟨a, its, h1, ⟨o, k _ _ h2, h3⟩, AtL.kept k h4⟩
  | .lst _, _, r => by
    rw [AtH] at r ⊢
    obtain ⟨a, its, h1, ⟨o, h2, h3⟩, h4⟩ := r
    exact ⟨a, its, h1, ⟨o, k _ _ h2, h3⟩, AtL.kept k h4⟩
theorem AtL.kept {h h' : Heap} (k : ∀ b o, h.get? b = some o → h'.get? b = some o) : ∀ {ds : List Dat} {us : List Value}, AtL h ds us → AtL h' ds us
  | [], _, r => by rw [AtL] at r ⊢; exact r
  | _ :: _, _, r => by
    rw [AtL] at r ⊢
    obtain ⟨u, r', h1, h2, h3⟩ := r
    exact ⟨u, r', h1, AtH.kept k h2, AtL.kept k h3⟩
end
theorem AtL.mem {h : Heap} : ∀ {ds : List Dat} {us : List Value}, AtL h ds us → ∀ u ∈ us, ∃ d ∈ ds, AtH h d u
  | [], _, r, u, hu => by rw [AtL] at r; subst r; cases hu
  | d :: ds, _, r, u, hu => by
    rw [AtL] at r
    obtain ⟨u', r', rfl, h2, h3⟩ := r
    rcases List.mem_cons.mp hu with rfl | hu
    · exact ⟨d, List.mem_cons_self .., h2⟩
    · obtain ⟨d', h4, h5⟩ := AtL.mem h3 u hu
      exact ⟨d', List.mem_cons_of_mem _ h4, h5⟩
theorem lexLt_irr : ∀ l : List Int, lexLt l l = false
  | [] => rfl
  | x :: l => by rw [HT.lexLt_cons, if_pos rfl, lexLt_irr l]
theorem lexLt_tr : ∀ {a b c : List Int}, lexLt a b = true → lexLt b c = true → lexLt a c = true
  | [], [], _, h, _ => by cases h
  | [], _ :: _, [], _, h => by cases h
  | [], _ :: _, _ :: _, _, _ => rfl
  | _ :: _, [], _, h, _ => by cases h
  | _ :: _, _ :: _, [], _, h => by cases h
  | x :: a, y :: b, z :: c, h1, h2 => by
    rw [HT.lexLt_cons] at *
    split at h1 <;> split at h2
    · rename_i e1 e2; subst e1; subst e2; rw [if_pos rfl]; exact lexLt_tr h1 h2
    · rename_i e1 e2; subst e1; rw [if_neg e2]; exact h2
    · rename_i e1 e2; subst e2; rw [if_neg e1]; exact h1
    · rename_i e1 e2
      simp only [decide_eq_true_eq] at h1 h2
      rw [if_neg (by omega)]
      simp only [decide_eq_true_eq]; omega
theorem lexLt_tot : ∀ {a b : List Int}, lexLt a b = false → lexLt b a = false → a = b
  | [], [], _, _ => rfl
  | [], _ :: _, h, _ => by cases h
  | _ :: _, [], _, h => by cases h
  | x :: a, y :: b, h1, h2 => by
    rw [HT.lexLt_cons] at *
    by_cases e : x = y
    · subst e
      rw [if_pos rfl] at h1 h2
      rw [lexLt_tot h1 h2]
    · rw [if_neg e] at h1
      rw [if_neg (Ne.symm e)] at h2
      simp only [decide_eq_false_iff_not] at h1 h2
      omega
theorem lexLt_nt {a b c : List Int} (h : lexLt a c = true) : lexLt a b = true ∨ lexLt b c = true := by
  cases e : lexLt a b with
  | true => exact .inl rfl
  | false =>
    right
    cases e2 : lexLt b a with
    | false =>
      have := lexLt_tot e e2
      subst this; exact h
    | true => exact lexLt_tr e2 h
structure OrdL (g : Dat → List Int) (ds : List Dat) : Prop where
  lt : ∀ x ∈ ds, ∀ y ∈ ds, cmpD true x y = lexLt (g x) (g y)
  ord : ∀ x ∈ ds, ∀ y ∈ ds, ordC 8 x y = true
  pl : ∀ x ∈ ds, plainD 8 x = true
  tup : ∀ x ∈ ds, ∃ y l, x = .tup (y :: l)
  one : (∀ x ∈ ds, ∃ i l, x = .tup (.int i :: l)) ∨ (∀ x ∈ ds, ∃ k l, x = .tup (.tup k :: l))
open Classical in
noncomputable def datOf (h : Heap) (u : Value) : Dat := if e : ∃ d, plainD 8 d = true ∧ AtH h d u then Classical.choose e else .non
theorem datOf_eq {h : Heap} {d : Dat} {u : Value} (p : plainD 8 d = true) (r : AtH h d u) : datOf h u = d := by
  have e : ∃ d, plainD 8 d = true ∧ AtH h d u := ⟨d, p, r⟩
  unfold datOf
  rw [dif_pos e]
  obtain ⟨a, b⟩ := Classical.choose_spec e
  exact AtH.inj 8 a p b r
noncomputable def rkD (g : Dat → List Int) (ds : List Dat) (d : Dat) : Nat := ds.countP fun z => lexLt (g z) (g d)
theorem rk_mono (g : Dat → List Int) : ∀ (ds : List Dat) {x y : Dat}, lexLt (g x) (g y) = true → rkD g ds x ≤ rkD g ds y ∧ (x ∈ ds → rkD g ds x < rkD g ds y)
  | [], x, y, _ => ⟨Nat.le_refl _, fun h => by cases h⟩
  | z :: ds, x, y, h => by
    obtain ⟨i1, i2⟩ := rk_mono g ds h
    unfold rkD at *
    rw [List.countP_cons, List.countP_cons]
    have imp : lexLt (g z) (g x) = true → lexLt (g z) (g y) = true := fun e => lexLt_tr e h
    constructor
    · cases e1 : lexLt (g z) (g x) with
      | true => rw [imp e1]; simp; exact i1
      | false => simp; omega
    · intro hx
      rcases List.mem_cons.mp hx with rfl | hx
      · rw [lexLt_irr, h]; simp; omega
      · have := i2 hx
        cases e1 : lexLt (g z) (g x) with
        | true => rw [imp e1]; simp; omega
        | false => simp; omega
theorem rk_iff (g : Dat → List Int) (ds : List Dat) {x y : Dat} (hx : x ∈ ds) (hy : y ∈ ds) : decide (rkD g ds x < rkD g ds y) = lexLt (g x) (g y) := by
  cases e : lexLt (g x) (g y) with
  | true => exact decide_eq_true ((rk_mono g ds e).2 hx)
  | false =>
    refine decide_eq_false fun hlt => ?_
    cases e2 : lexLt (g y) (g x) with
    | true => have := (rk_mono g ds e2).2 hy; omega
    | false =>
      have := lexLt_tot e e2
      unfold rkD at hlt
      rw [this] at hlt
      omega
section
variable {prog : Program} {w : World} {A : Around} {E : Value → Shared → Prop} {s : Shared}
theorem oneLt_D {d e : Dat} {u v : Value} (fl : Bool) {Q : Bool → Shared → Prop} (hf : fl = true → (∃ i, d = .int i) ∧ ∃ j, e = .int j) (hl : LtAt true A s u v (cmpD true d e)) (rd : AtH s.heap d u) (re : AtH s.heap e v) (h : Q (cmpD true d e) s) : wpAny (model prog w) A (oneLt' fl u v) Q E s := by
  cases fl with
  | true =>
    obtain ⟨⟨i, rfl⟩, j, rfl⟩ := hf rfl
    rw [AtH] at rd re
    obtain ⟨t, rfl⟩ := rd
    obtain ⟨t', rfl⟩ := re
    refine oneLt_int ?_
    rw [cmpD] at h
    exact h
  | false =>
    refine PySem.W.kat_one u v ?_
    exact hl prog w E _ h
theorem keyLt_D {fl : Bool} {a b : Addr} {l m : List Dat} {is js : List Value} {Q : Bool → Shared → Prop} (ti : s.heap.IsTuple a is.toArray) (tj : s.heap.IsTuple b js.toArray) (rl : AtL s.heap l is) (rm : AtL s.heap m js) (hP : Prs A s true l m is js)
    (hf : fl = true → ∀ x y, l[0]? = some x → m[0]? = some y → (∃ i, x = .int i) ∧ ∃ j, y = .int j) (h : Q (cmpL true l m) s) : wpAny (model prog w) A (keyLt' (tuples' fl) (.ref a) (.ref b)) Q E s := by
  obtain ⟨o1, h1, _, n1, d1⟩ := ti
  obtain ⟨o2, h2, _, n2, d2⟩ := tj
  refine PySem.W.kat_lt h1 d1 h2 d2 ?_
  have z1 : is.toArray.size = l.length := by rw [List.size_toArray, rl.length]
  have z2 : js.toArray.size = m.length := by rw [List.size_toArray, rm.length]
  have gen : ∀ (i : Nat) (l' m' : List Dat) (is' js' : List Value), Prs A s true l' m' is' js' → AtL s.heap l' is' → AtL s.heap m' js' → (fl && i == 0) = true ∧ l' = l ∧ m' = m ∨ (fl && i == 0) = false → l'.length + m.length = m'.length + l.length → Q (cmpL true l' m') s →
      PySem.W.KatLex prog w A fl (decide (is.toArray.size < js.toArray.size)) Q (is'.zip js') i s := by
    intro i l' m' is' js' hP'
    induction hP' generalizing i with
    | @nilL m' ws hq =>
      intro _ _ _ hl hQ
      rw [List.zip_nil_left]
      refine PySem.W.kat_nil ?_
      rw [z1, z2]
      rw [List.length_nil] at hl
      cases m' with
      | nil => rw [cmpL] at hQ; rw [decide_eq_false (by simp at hl; omega)]; exact hQ
      | cons y m' => rw [cmpL] at hQ; rw [decide_eq_true (by simp at hl; omega)]; exact hQ
    | @nilR l' vs hq =>
      intro _ _ _ hl hQ
      rw [List.zip_nil_right]
      refine PySem.W.kat_nil ?_
      rw [z1, z2]
      rw [List.length_nil] at hl
      cases l' with
      | nil => rw [cmpL] at hQ; rw [decide_eq_false (by simp at hl; omega)]; exact hQ
      | cons y l' => rw [cmpL] at hQ; rw [decide_eq_false (by simp at hl; omega)]; exact hQ
    | @cons x y l' m' u v vs ws he hl' t ih =>
      intro r1 r2 hfl hlen hQ
      rw [AtL] at r1 r2
      obtain ⟨u', vs', e1, ru, rvs⟩ := r1
      obtain ⟨v', ws', e2, rv, rws⟩ := r2
      cases e1
      cases e2
      rw [List.zip_cons_cons]
      refine PySem.W.kat_cons (he prog w _ _ ?_)
      rw [cmpL] at hQ
      cases hq : eqD x y with
      | true =>
        rw [hq, if_pos rfl] at hQ
        refine PySem.W.kat_yes (ih (i + 1) rvs rws (.inr (by simp)) (by simp at hlen; omega) hQ)
      | false =>
        rw [hq, if_neg (by decide)] at hQ
        refine PySem.W.kat_no (oneLt_D _ (fun hfi => ?_) hl' ru rv hQ)
        rcases hfl with ⟨g1, g2, g3⟩ | g1
        · refine hf ?_ x y ?_ ?_
          · cases fl <;> simp_all
          · rw [← g2]; rfl
          · rw [← g3]; rfl
        · rw [g1] at hfi; cases hfi
  refine gen 0 l m is js hP rl rm ?_ (Nat.add_comm _ _) h
  cases fl with
  | true => exact .inl ⟨rfl, rfl, rfl⟩
  | false => exact .inr rfl
theorem cmpOk_D {g : Dat → List Int} {ds : List Dat} {vs : List Value} (r : AtL s.heap ds vs) (O : OrdL g ds) {fl : Bool} (hf : fl = true → ∀ x ∈ ds, ∃ i l, x = .tup (.int i :: l)) (hu : A.units + 8 < cLine) :
    TS.CmpOk prog w A s (pairsOf vs) (fun p => rkD g ds (datOf s.heap p.1)) (tuples' fl) := by
  intro x y hx hy E Q hq
  rw [pairsOf_toList] at hx hy
  obtain ⟨d, hd, rd⟩ := r.mem _ (mem_zip_self hx).2
  obtain ⟨e, he, re⟩ := r.mem _ (mem_zip_self hy).2
  have hq0 : decide (rkD g ds (datOf s.heap x.1) < rkD g ds (datOf s.heap y.1)) = cmpD true d e := by
    rw [datOf_eq (O.pl d hd) rd, datOf_eq (O.pl e he) re, rk_iff g ds hd he, ← O.lt d hd e he]
  replace hq : Q (cmpD true d e) s := by rw [← hq0]; exact hq
  have hl := ltAt_D (A := A) (s := s) true 8 (O.ord d hd e he) (O.pl d hd) (O.pl e he) rd re hu
  obtain ⟨x0, l, rfl⟩ := O.tup d hd
  obtain ⟨y0, m, rfl⟩ := O.tup e he
  have od := O.ord _ hd _ he
  have p1 := O.pl _ hd
  have p2 := O.pl _ he
  rw [plainD, List.all_eq_true] at p1 p2
  rw [ordC, List.all_eq_true] at od
  rw [AtH] at rd re
  obtain ⟨a, is, ea, ti, rl⟩ := rd
  obtain ⟨b, js, eb, tj, rm⟩ := re
  rw [ea, eb]
  rw [cmpD] at hq
  refine keyLt_D ti tj rl rm (prs_of rl.length rm.length fun i x y u v g1 g2 g3 g4 => ?_) (fun h0 x y g1 g2 => ?_) hq
  · obtain ⟨u', hu', ru⟩ := rl.get g1
    obtain ⟨v', hv', rv⟩ := rm.get g2
    rw [g3] at hu'
    rw [g4] at hv'
    cases hu'
    cases hv'
    have q1 := p1 x (List.mem_of_getElem? g1)
    have q2 := p2 y (List.mem_of_getElem? g2)
    have o1 := od (x, y) (List.mem_of_getElem? (i := i) (by rw [List.getElem?_zip_eq_some]; exact ⟨g1, g2⟩))
    exact ⟨(eqAt_D 7 q1 q2 ru rv (by omega)).1, ltAt_D true 7 o1 q1 q2 ru rv (by omega)⟩
  · obtain ⟨i, l', e1⟩ := hf h0 _ hd
    obtain ⟨j, m', e2⟩ := hf h0 _ he
    cases e1
    cases e2
    cases g1
    cases g2
    exact ⟨⟨i, rfl⟩, j, rfl⟩
theorem katTups_of {g : Dat → List Int} {T : Value} : ∀ {ds : List Dat} {vs : List Value}, AtL s.heap ds vs → (∀ x ∈ ds, ∃ y l, x = .tup (y :: l) ∧ ∀ u, AtH s.heap y u → PySem.W.Looks (model prog w) s.heap (typeOf u) T) → ∃ fs, PySem.W.KatTups s.heap vs fs ∧ fs.length = vs.length ∧ ∀ v ∈ fs, PySem.W.Looks (model prog w) s.heap (typeOf v) T
  | [], _, r, _ => by rw [AtL] at r; subst r; exact ⟨[], trivial, rfl, fun _ h => by cases h⟩
  | d :: ds, _, r, h => by
    rw [AtL] at r
    obtain ⟨u, vs', rfl, rd, rr⟩ := r
    obtain ⟨fs, h1, h2, h3⟩ := katTups_of (g := g) rr fun x hx => h x (List.mem_cons_of_mem _ hx)
    obtain ⟨y, l, rfl, hy⟩ := h d (List.mem_cons_self ..)
    rw [AtH] at rd
    obtain ⟨a, is, rfl, ⟨o, ho, hc, n, hd⟩, rl⟩ := rd
    rw [AtL] at rl
    obtain ⟨u0, is', rfl, ru, _⟩ := rl
    refine ⟨u0 :: fs, .cons ho hc hd rfl h1, by simp [h2], fun v hv => ?_⟩
    rcases List.mem_cons.mp hv with rfl | hv
    · exact hy _ ru
    · exact h3 v hv
theorem pw_short {α : Type} {R : α → α → Prop} : ∀ {l : List α}, l.length < 2 → l.Pairwise R
  | [], _ => .nil
  | [_], _ => List.pairwise_singleton _ _
  | _ :: _ :: _, h => absurd h (by simp)
theorem listSort_D {g : Dat → List Int} {a : Addr} {ds : List Dat} {vs : List Value} {n : Nat} {P : PySem.Fin → Shared → Prop} (ho : s.heap.get? a = some (seqObj "list" vs.toArray n)) (r : AtL s.heap ds vs) (hna : ∀ b o, b ≠ a → s.heap.get? b = some o → True) (hfr : ∀ (h' : Heap), (∀ b o, b ≠ a → s.heap.get? b = some o → h'.get? b = some o) → AtL h' ds vs) (O : OrdL g ds) (hsz : vs.length ≤ sizeLine) (hu : A.units + 8 < cLine)
    (h : ∀ out : Array Value, out.toList.Perm vs → (out.toList.map fun u => g (datOf s.heap u)).Pairwise (fun x y => HT.lexLt y x = false) → P (.done (.ret .none)) { s with heap := sortedHeap s.heap a vs out }) :
    wpAny (model prog w) A (Builtin.«list.sort» ⟨[.ref a], []⟩) P E s := by
  rw [list_sort_plain]
  have ha : a < s.heap.objs.size := Heap.lt_size ho
  refine wpAny_bind (listItems_at ho rfl ?_)
  refine wpAny_bind (listUpdate_at ho rfl ?_ (by rw [List.size_toArray]; exact hsz) (Nat.zero_le _))
  obtain ⟨e1, ho1⟩ : ∃ e1, (s.heap.update a (Obj.mapSeq fun _ => #[])).get? a = some (seqObj "list" #[] e1) := ⟨_, get?_update_seq ho (fun _ => #[])⟩
  refine wpAny_bind (seqEpoch_at ho1 rfl ?_)
  refine wpAny_bind (wpAny_newTuple ?_ (by show vs.length ≤ _; exact hsz))
  refine wpAny_bind (wpAny_newList ?_ (Nat.zero_le _))
  refine wpAny_holding ?_
  have ho6 : (((s.heap.update a (Obj.mapSeq fun _ => #[])).push (seqObj "tuple" vs.toArray 0)).push (seqObj "list" #[] 0)).get? a = some (seqObj "list" #[] e1) := by
    rw [Heap.get?_push_ne _ _ _ (by rw [size_push', Heap.size_update]; exact Nat.ne_of_lt (Nat.lt_succ_of_lt ha)), Heap.get?_push_ne _ _ _ (by rw [Heap.size_update]; exact Nat.ne_of_lt ha)]
    exact ho1
  have keep : ∀ b o, b ≠ a → s.heap.get? b = some o → (((s.heap.update a (Obj.mapSeq fun _ => #[])).push (seqObj "tuple" vs.toArray 0)).push (seqObj "list" #[] 0)).get? b = some o := fun b o hb e => by
    have hlt : b < s.heap.objs.size := Heap.lt_size e
    rw [Heap.get?_push_ne _ _ _ (by rw [size_push', Heap.size_update]; exact Nat.ne_of_lt (Nat.lt_succ_of_lt hlt)), Heap.get?_push_ne _ _ _ (by rw [Heap.size_update]; exact Nat.ne_of_lt hlt), Heap.get?_update_ne _ _ _ _ hb]
    exact e
  have r6 := hfr _ keep
  show wpAny (model prog w) A _ P E { s with heap := ((s.heap.update a (Obj.mapSeq fun _ => #[])).push (seqObj "tuple" vs.toArray 0)).push (seqObj "list" #[] 0) }
  generalize hh6 : ((s.heap.update a (Obj.mapSeq fun _ => #[])).push (seqObj "tuple" vs.toArray 0)).push (seqObj "list" #[] 0) = h6 at *
  have dat6 : ∀ u ∈ vs, datOf h6 u = datOf s.heap u := fun u hu' => by
    obtain ⟨i, hi⟩ := List.mem_iff_getElem?.mp hu'
    have hl := r.length
    have hli := (List.getElem?_eq_some_iff.mp hi).1
    have hd : ds[i]? = some (ds[i]'(by omega)) := List.getElem?_eq_getElem (by omega)
    obtain ⟨u1, q1, q2⟩ := r.get hd
    obtain ⟨u2, q3, q4⟩ := r6.get hd
    rw [hi] at q1 q3
    cases q1
    cases q3
    have p := O.pl _ (List.getElem_mem (by omega : i < ds.length))
    rw [datOf_eq p q2, datOf_eq p q4]
  dsimp only
  have hszA : vs.toArray.size = vs.length := by simp
  by_cases h2 : vs.toArray.size < 2
  · rw [if_pos h2, if_pos h2]
    refine wpAny_bind (wpAny_pure ?_)
    rw [StateT.run_pure]
    refine wpAny_bind (wpAny_pure ?_)
    dsimp only
    refine wpAny_bind (seqEpoch_at ho6 rfl ?_)
    refine wpAny_bind (listUpdate_at ho6 rfl ?_ (Nat.zero_le _) (by rw [Array.size_map]; show (pairsOf vs).size ≤ _; rw [pairsOf_size]; omega))
    simp only [bne_self_eq_false, Bool.false_eq_true, if_false]
    have e : (vs.toArray.zip vs.toArray).map (·.2) = vs.toArray := by
      apply Array.toList_inj.mp
      rw [Array.toList_map]
      show (pairsOf vs).toList.map (·.2) = vs
      rw [pairsOf_toList, List.map_snd_zip (Nat.le_refl _)]
    have := h vs.toArray (by simp) (by
      rw [hszA] at h2
      exact pw_short (by simpa using h2))
    refine wpAny_pure ?_
    unfold sortedHeap at this
    rw [hh6] at this
    show P _ { s with heap := h6.update a (Obj.mapSeq fun _ => (vs.toArray.zip vs.toArray).map (·.2)) }
    rw [e]
    exact this
  rw [if_neg h2, if_neg h2]
  have hne : 0 < vs.length := by omega
  obtain ⟨fl, hfl, hkk⟩ : ∃ fl : Bool, (fl = true → ∀ x ∈ ds, ∃ i l, x = .tup (.int i :: l)) ∧ ∀ (Q : SortKind → Shared → Prop), Q (tuples' fl) { s with heap := h6 } → wpAny (model prog w) A (keyKind' vs.toArray) Q E { s with heap := h6 } := by
    rcases O.one with ho' | ho'
    · refine ⟨true, fun _ => ho', fun Q hQ => ?_⟩
      obtain ⟨fs, k1, k2, k3⟩ := katTups_of (prog := prog) (w := w) (s := { s with heap := h6 }) (g := g) (T := .type "int") r6 fun x hx => by
        obtain ⟨i, l, rfl⟩ := ho' x hx
        refine ⟨_, l, rfl, fun u hu' => ?_⟩
        rw [AtH] at hu'
        obtain ⟨t, rfl⟩ := hu'
        exact PySem.W.Looks.of_pure rfl
      exact PySem.W.kat_kind k1 (by omega) k3 rfl hQ
    · refine ⟨false, (fun h => nomatch h), fun Q hQ => ?_⟩
      obtain ⟨fs, k1, k2, k3⟩ := katTups_of (prog := prog) (w := w) (s := { s with heap := h6 }) (g := g) (T := .type "tuple") r6 fun x hx => by
        obtain ⟨i, l, rfl⟩ := ho' x hx
        refine ⟨_, l, rfl, fun u hu' => ?_⟩
        rw [AtH] at hu'
        obtain ⟨b, is, rfl, ⟨o, q1, q2, _⟩, _⟩ := hu'
        have := (PySem.W.Looks.ld (M := model prog w) (part := none) q1).andThen (f := fun o => pure o.cls) (b := o.cls) .now
        rw [q2] at this
        exact (show PySem.W.Looks (model prog w) h6 (typeOf (.ref b)) (.type "tuple") from q2 ▸ (PySem.W.Looks.ld q1).andThen .now)
      exact PySem.W.kat_kind k1 (by omega) k3 rfl hQ
  refine wpAny_bind (hkk _ ?_)
  have hc := cmpOk_D (prog := prog) (w := w) (A := A) (s := { s with heap := h6 }) (g := g) r6 O hfl hu
  refine wpAny_bind (wpAny_mono (TS.wpS_sortRuns (st := SortSt.mk' (tuples' fl) (vs.toArray.zip vs.toArray) #[] 7 none) (Q := fun _ st' => TS.SB (pairsOf vs) (tuples' fl) st' ∧ TS.Srt (fun p => rkD g ds (datOf h6 p.1)) (arrOf st').toList) hc ⟨Array.Perm.refl _, rfl, rfl⟩ rfl fun st' b1 b2 => ⟨b1, b2⟩) ?_ fun _ _ e => e)
  rintro ⟨⟨⟩, st'⟩ s' ⟨rfl, hB, hS⟩
  dsimp only
  refine wpAny_bind (seqEpoch_at ho6 rfl ?_)
  have hpz : (arrOf st').toList.Perm (vs.zip vs) := by rw [← pairsOf_toList]; exact Array.perm_iff_toList_perm.mp hB.perm
  refine wpAny_bind (listUpdate_at ho6 rfl ?_ (Nat.zero_le _) (by rw [Array.size_map, hB.size, pairsOf_size]; omega))
  have hff : failedOf st' = none := hB.failed
  rw [hff]
  simp only [bne_self_eq_false, Bool.false_eq_true, if_false]
  refine wpAny_pure ?_
  have := h ((arrOf st').map (·.2)) (by
    rw [Array.toList_map]
    have := hpz.map (·.2)
    rwa [List.map_snd_zip (Nat.le_refl _)] at this) (by
    rw [Array.toList_map, List.map_map, List.pairwise_map]
    refine List.Pairwise.imp_of_mem (fun {x y} hx hy hle => ?_) hS
    have mx := mem_zip_self (hpz.mem_iff.mp hx)
    have my := mem_zip_self (hpz.mem_iff.mp hy)
    show HT.lexLt (g (datOf s.heap y.2)) (g (datOf s.heap x.2)) = false
    rw [← mx.1, ← my.1, ← dat6 _ mx.2, ← dat6 _ my.2]
    obtain ⟨dx, hdx, rdx⟩ := r6.mem _ mx.2
    obtain ⟨dy, hdy, rdy⟩ := r6.mem _ my.2
    have hle' : rkD g ds (datOf h6 x.1) ≤ rkD g ds (datOf h6 y.1) := hle
    rw [datOf_eq (O.pl _ hdx) rdx, datOf_eq (O.pl _ hdy) rdy] at hle' ⊢
    rw [← rk_iff g ds hdy hdx]
    exact decide_eq_false (by omega))
  unfold sortedHeap at this
  rw [hh6] at this
  exact this
end
end TF
namespace TF
open PySem PySem.Spec L2
open PyProof.Rows hiding St RelV
inductive Tri (K : PySem.W.Frag) (H : Hp) : List Dat → List V → List Value → Prop
  | nil : Tri K H [] [] []
  | cons {d v u ds vs us} (h : Rep K H d v) (r : RelV v u) (t : Tri K H ds vs us) : Tri K H (d :: ds) (v :: vs) (u :: us)
theorem tri_of {K : PySem.W.Frag} {H : Hp} : ∀ {ds : List Dat} {vs : List V} {us : List Value}, RepL K H ds vs → Vals vs us → Tri K H ds vs us
  | [], _, _, r, v => by rw [RepL] at r; subst r; cases v; exact .nil
  | d :: ds, _, _, r, v => by
    rw [RepL] at r
    obtain ⟨x, r', rfl, h1, h2⟩ := r
    cases v with
    | cons q t => exact .cons h1 q (tri_of h2 t)
theorem Tri.rep {K : PySem.W.Frag} {H : Hp} {ds : List Dat} {vs : List V} {us : List Value} (h : Tri K H ds vs us) : RepL K H ds vs ∧ Vals vs us := by
  induction h with
  | nil => exact ⟨RepL.nil, .nil⟩
  | cons h r t ih => exact ⟨RepL.cons h ih.1, .cons r ih.2⟩
theorem Tri.same {K : PySem.W.Frag} {H H' : Hp} {ds : List Dat} {vs : List V} {us : List Value} (e : Same H H') (h : Tri K H ds vs us) : Tri K H' ds vs us := by
  induction h with
  | nil => exact .nil
  | cons h r t ih => exact .cons (h.same e) r ih
theorem tri_perm {K : PySem.W.Frag} {H : Hp} {us us' : List Value} (p : us'.Perm us) : ∀ {ds : List Dat} {vs : List V}, Tri K H ds vs us → ∃ ds' vs', Tri K H ds' vs' us' ∧ ds'.Perm ds := by
  induction p with
  | nil => intro ds vs h; exact ⟨ds, vs, h, .refl _⟩
  | cons x p ih =>
    intro ds vs h
    cases h with
    | cons h r t =>
      obtain ⟨ds', vs', t', p'⟩ := ih t
      exact ⟨_, _, .cons h r t', p'.cons _⟩
  | swap x y l =>
    intro ds vs h
    cases h with
    | cons h r t =>
      cases t with
      | cons h2 r2 t2 => exact ⟨_, _, .cons h2 r2 (.cons h r t2), .swap ..⟩
  | trans p1 p2 i1 i2 =>
    intro ds vs h
    obtain ⟨ds', vs', t', p'⟩ := i2 h
    obtain ⟨ds2, vs2, t2, p2'⟩ := i1 t'
    exact ⟨ds2, vs2, t2, p2'.trans p'⟩
theorem tri_dat {X : Cx} {pins : List (Addr × Obj)} {σ : St} {H : Hp} {s : Shared} (I : Inv X pins σ H s) {g : Dat → List Int} {ds : List Dat} {vs : List V} {us : List Value} (h : Tri X.K H ds vs us) (pl : ∀ d ∈ ds, plainD 8 d = true) : us.map (fun u => g (datOf s.heap u)) = ds.map g := by
  induction h with
  | nil => rfl
  | cons h r t ih =>
    rw [List.map_cons, List.map_cons, ih fun d hd => pl d (List.mem_cons_of_mem _ hd)]
    have p := pl _ (List.mem_cons_self ..)
    rw [datOf_eq p (h.at I p r)]
section
variable {X : Cx} {ρ : Rho} {G : Gs} {e a b c : Expr} {d d1 d2 : Dat} {ds l m : List Dat} {pos : Pos}
theorem call_sortedD (g : Dat → List Int) (ds : List Dat) (O : OrdL g ds) (hu : X.A.units + 20 < cLine) : CallR X (.builtin "sorted") (fun xs H Q => ∃ p vs H0, xs = [.ref p] ∧ SqL X.K H p vs ∧ Same H0 H ∧ RepL X.K H0 ds vs ∧
    ∀ q ds' vs', H q = none → RepL X.K H0 ds' vs' → ds'.Perm ds → (ds'.map g).Pairwise (fun x y => HT.lexLt y x = false) → Q (.ref q) (upd H q (.lst vs'))) := by
  intro pins s σ H xs us Q I r h
  obtain ⟨p, vs, H0, rfl, hq, hS0, rd, q⟩ := h
  obtain ⟨u, rfl, rx⟩ := vals1 r
  cases rx
  obtain ⟨its, r', pl, hz⟩ := I.list hq
  have T := tri_of rd r'
  have hlen : vs.length = its.length := r'.length
  have ra : AtL s.heap ds its := (rd.same hS0).at I (by rw [List.all_eq_true]; exact O.pl) r'
  refine Calls.call_function_entry kind_sorted plain_sorted entry_sorted (args_sorted1 _) ?_
  unfold Builtin.«sorted»
  refine wpAny_bind (m := checkCount "sorted" 1 1 _) (wpAny_pure ?_)
  refine wpAny_bind (collect_list pl.isList ?_ (by omega))
  refine wpAny_bind (wpAny_newList ?_ (by omega))
  have hsz : ((s.heap.push (seqObj "list" #[] 0)).update s.heap.objs.size (Obj.mapSeq (· ++ its.toArray))).objs.size = s.heap.objs.size + 1 := by
    rw [Heap.size_update, size_push']
  have hoL : (((s.heap.push (seqObj "list" #[] 0)).update s.heap.objs.size (Obj.mapSeq (· ++ its.toArray))).push (seqObj "list" its.toArray 0)).get? (s.heap.objs.size + 1) = some (seqObj "list" its.toArray 0) := by
    rw [← hsz]; exact Heap.get?_push_size _ rfl
  have keep : ∀ b o, s.heap.get? b = some o → (((s.heap.push (seqObj "list" #[] 0)).update s.heap.objs.size (Obj.mapSeq (· ++ its.toArray))).push (seqObj "list" its.toArray 0)).get? b = some o := fun b o e => by
    have hlt : b < s.heap.objs.size := Heap.lt_size e
    rw [Heap.get?_push_ne _ _ _ (by rw [hsz]; exact Nat.ne_of_lt (Nat.lt_succ_of_lt hlt)), Heap.get?_update_ne _ _ _ _ (Nat.ne_of_lt hlt), Heap.get?_push_ne _ _ _ (Nat.ne_of_lt hlt)]
    exact e
  show wpAny _ _ _ _ _ { s with heap := ((s.heap.push (seqObj "list" #[] 0)).update s.heap.objs.size (Obj.mapSeq (· ++ its.toArray))).push (seqObj "list" its.toArray 0) }
  rw [hsz]
  refine wpAny_bind (wpAny_holding (wpAny_call_entry slot_list_sort ⟨_, hoL, rfl⟩ entry_list_sort (listSort_D (g := g) (ds := ds) hoL (ra.kept keep) (fun _ _ _ _ => trivial) (fun h' k => ra.kept fun b o e => k b o (Nat.ne_of_lt (Nat.lt_succ_of_lt (Heap.lt_size e))) (keep b o e)) O (by omega) (by show X.A.units + 1 + 1 + 8 < cLine; omega) fun out hp hs => ⟨_, rfl, ?_⟩) (args_list_sort _)))
  refine wpAny_pure ⟨_, rfl, ?_⟩
  obtain ⟨ds', vs', T', hpd⟩ := tri_perm hp T
  obtain ⟨rd', rv'⟩ := T'.rep
  have hz' : vs'.length ≤ sizeLine := by
    have e1 := rv'.length
    have e2 := hp.length_eq
    omega
  obtain ⟨ep, hat⟩ := sortedAll_at s.heap its out
  have hdat : ∀ u ∈ out.toList, datOf (((s.heap.push (seqObj "list" #[] 0)).update s.heap.objs.size (Obj.mapSeq (· ++ its.toArray))).push (seqObj "list" its.toArray 0)) u = datOf s.heap u := fun u hu' => by
    obtain ⟨d, hd, hr⟩ := ra.mem u (hp.mem_iff.mp hu')
    rw [datOf_eq (O.pl d hd) hr, datOf_eq (O.pl d hd) (hr.kept keep)]
  have hs' : (ds'.map g).Pairwise (fun x y => HT.lexLt y x = false) := by
    rw [← tri_dat I (T'.same hS0) (fun d hd => O.pl d (hpd.mem_iff.mp hd))]
    have e : out.toList.map (fun u => g (datOf s.heap u)) = out.toList.map (fun u => g (datOf (((s.heap.push (seqObj "list" #[] 0)).update s.heap.objs.size (Obj.mapSeq (· ++ its.toArray))).push (seqObj "list" its.toArray 0)) u)) :=
      List.map_congr_left fun u hu' => by rw [hdat u hu']
    rw [e]
    exact hs
  refine ⟨.ref (s.heap.objs.size + 1), upd H (s.heap.objs.size + 1) (.lst vs'), ?_, rfl, q _ ds' vs' ?_ rd' hpd hs'⟩
  · refine I.laid (t' := s.toks) (o := .lst vs') (fun b o e => sortedAll_old e) (Nat.le_succ _) ?_
    exact ⟨hz', out.toList, ep, rv', by rw [Array.toArray_toList]; exact hat⟩
  · exact I.hok.fresh (Nat.le_succ _)
theorem px_sorted {pp : Pos} (g : Dat → List Int) (hu : X.A.units + 20 < cLine) (hm : X.mg "sorted" = none) (ha : PX X ρ G a d1) (hl : d1 = .lst l ∨ ∃ p, d1 = .fn p ∧ G p = some (.lst l)) (O : OrdL g l) (hq : ∀ l', l'.Perm l → (l'.map g).Pairwise (fun x y => HT.lexLt y x = false) → l' = m)
    (hg : Gl X "sorted" := by rfl) (he : starEach [a] X.env = (false, eval a X.env) :: starEach [] X.env := by rfl) : PX X ρ G (.Call (.Name "sorted" pp) [a] [] pos) (.lst m) :=
  px_call1 (call_sortedD g l O hu) hg hm (by decide +kernel) ha (fun H x Q o r k => by
    have : ∃ p vs, x = .ref p ∧ SqL X.K H p vs ∧ RepL X.K (hid H G) l vs := by
      rcases hl with rfl | ⟨p, rfl, hG⟩
      · rw [Rep] at r
        obtain ⟨p, vs, e, h1, h2⟩ := r
        exact ⟨p, vs, e, SqL.of (hid_le _ _ h1), h2⟩
      · obtain ⟨vs, h1, h2⟩ := o p _ hG
        exact ⟨p, vs, r, SqL.of h1, h2⟩
    obtain ⟨p, vs, e, h1, h2⟩ := this
    refine ⟨p, vs, hid H G, by rw [e], h1, hid_le, h2, fun q ds' vs' hq' r' hp' hs' => ?_⟩
    obtain rfl := hq ds' hp' hs'
    exact k _ _ (new_lst o hq' r')) (he := he)
end
end TF
namespace TF
open PySem PySem.Spec L2
open PyProof.Rows hiding St RelV
mutual
noncomputable def flat : Dat → List Int
  | .int i => [i]
  | .tup l => flatL l
  | _ => []
noncomputable def flatL : List Dat → List Int
  | [] => []
  | d :: r => flat d ++ flatL r
end
noncomputable abbrev lx : List Int → List Int → Bool := HT.lexLt
theorem lx_app (a b c : List Int) : lx (a ++ b) (a ++ c) = lx b c := by
  induction a with
  | nil => rfl
  | cons x a ih => show HT.lexLt (x :: (a ++ b)) (x :: (a ++ c)) = _; rw [HT.lexLt_cons, if_pos rfl]; exact ih
theorem lx_ne : ∀ {a a' : List Int} (b c : List Int), a.length = a'.length → a ≠ a' → lx (a ++ b) (a' ++ c) = lx a a'
  | [], [], _, _, _, h => absurd rfl h
  | [], _ :: _, _, _, h, _ => by simp at h
  | _ :: _, [], _, _, h, _ => by simp at h
  | x :: a, y :: a', b, c, hl, hn => by
    show HT.lexLt (x :: (a ++ b)) (y :: (a' ++ c)) = HT.lexLt (x :: a) (y :: a')
    rw [HT.lexLt_cons, HT.lexLt_cons]
    by_cases e : x = y
    · subst e
      rw [if_pos rfl, if_pos rfl]
      exact lx_ne b c (by simpa using hl) fun z => hn (by rw [z])
    · rw [if_neg e, if_neg e]
structure FlD (c : Nat) (x y : Dat) : Prop where
  lx : (flat x).length = c
  ly : (flat y).length = c
  eq : eqD x y = decide (flat x = flat y)
  lt : cmpD true x y = TF.lx (flat x) (flat y)
theorem flD_list {c : Nat} (hc : 0 < c) : ∀ (l m : List Dat), (∀ x ∈ l, ∀ y ∈ m, FlD c x y) → (∀ x ∈ l, (flat x).length = c) → (∀ y ∈ m, (flat y).length = c) → cmpL true l m = lx (flatL l) (flatL m) ∧ eqL l m = decide (flatL l = flatL m)
  | [], [], _, _, _ => ⟨rfl, rfl⟩
  | [], y :: m, _, _, h2 => by
    have := h2 y (List.mem_cons_self ..)
    have hne : flatL (y :: m) ≠ [] := by
      intro e
      rw [flatL] at e
      have := congrArg List.length e
      simp at this
      simp [this] at *
      omega
    obtain ⟨z, t, e⟩ := List.exists_cons_of_ne_nil hne
    constructor
    · rw [cmpL, flatL, e]; rfl
    · rw [show eqL [] (y :: m) = false from rfl, show flatL ([] : List Dat) = [] from rfl, e]; rfl
  | x :: l, [], _, h1, _ => by
    have := h1 x (List.mem_cons_self ..)
    have hne : flatL (x :: l) ≠ [] := by
      intro e
      rw [flatL] at e
      have := congrArg List.length e
      simp at this
      simp [this] at *
      omega
    obtain ⟨z, t, e⟩ := List.exists_cons_of_ne_nil hne
    constructor
    · rw [cmpL, e]; rfl
    · rw [show eqL (x :: l) [] = false from rfl, e]; rfl
  | x :: l, y :: m, h, h1, h2 => by
    have F := h x (List.mem_cons_self ..) y (List.mem_cons_self ..)
    obtain ⟨i1, i2⟩ := flD_list hc l m (fun x hx y hy => h x (List.mem_cons_of_mem _ hx) y (List.mem_cons_of_mem _ hy)) (fun x hx => h1 x (List.mem_cons_of_mem _ hx)) fun y hy => h2 y (List.mem_cons_of_mem _ hy)
    rw [cmpL, eqL, flatL, flatL, F.eq, F.lt, i1, i2]
    by_cases e : flat x = flat y
    · rw [decide_eq_true e, if_pos rfl, e]
      refine ⟨(lx_app _ _ _).symm, ?_⟩
      rw [Bool.true_and]
      simp
    · rw [decide_eq_false e, if_neg (by decide)]
      refine ⟨(lx_ne _ _ (by rw [F.lx, F.ly]) e).symm, ?_⟩
      rw [Bool.false_and]
      refine (decide_eq_false fun z => e ?_).symm
      exact (List.append_inj z (by rw [F.lx, F.ly])).1
theorem flD_tup {c k : Nat} (hc : 0 < c) {l m : List Dat} (h : ∀ x ∈ l, ∀ y ∈ m, FlD c x y) (h1 : ∀ x ∈ l, (flat x).length = c) (h2 : ∀ y ∈ m, (flat y).length = c) (hk1 : (flatL l).length = k) (hk2 : (flatL m).length = k) : FlD k (.tup l) (.tup m) := by
  obtain ⟨i1, i2⟩ := flD_list hc l m h h1 h2
  exact ⟨by rw [flat]; exact hk1, by rw [flat]; exact hk2, by rw [eqD, flat, flat]; exact i2, by rw [cmpD, flat, flat]; exact i1⟩
theorem flD_int (i j : Int) : FlD 1 (.int i) (.int j) := by
  refine ⟨rfl, rfl, ?_, ?_⟩
  · simp only [eqD, flat]
    rw [Bool.eq_iff_iff]; simp
  · rw [cmpD, flat, flat]
    show _ = HT.lexLt [i] [j]
    rw [HT.lexLt_cons]
    by_cases e : i = j
    · subst e; simp; rfl
    · rw [if_neg e]; rfl
theorem flD_sq (p q : Sq) : FlD 2 (sq p) (sq q) := by
  refine flD_tup (c := 1) (by decide) ?_ ?_ ?_ rfl rfl
  · intro x hx y hy
    simp only [List.mem_cons, List.not_mem_nil, or_false] at hx hy
    rcases hx with rfl | rfl <;> rcases hy with rfl | rfl <;> exact flD_int _ _
  · intro x hx
    simp only [List.mem_cons, List.not_mem_nil, or_false] at hx
    rcases hx with rfl | rfl <;> rfl
  · intro x hx
    simp only [List.mem_cons, List.not_mem_nil, or_false] at hx
    rcases hx with rfl | rfl <;> rfl
theorem flD_stone (p q : Sq × Sq) : FlD 4 (stone p) (stone q) := by
  refine flD_tup (c := 2) (by decide) ?_ ?_ ?_ rfl rfl
  · intro x hx y hy
    simp only [List.mem_cons, List.not_mem_nil, or_false] at hx hy
    rcases hx with rfl | rfl <;> rcases hy with rfl | rfl <;> exact flD_sq _ _
  · intro x hx
    simp only [List.mem_cons, List.not_mem_nil, or_false] at hx
    rcases hx with rfl | rfl <;> rfl
  · intro x hx
    simp only [List.mem_cons, List.not_mem_nil, or_false] at hx
    rcases hx with rfl | rfl <;> rfl
noncomputable abbrev Stone := Sq × Sq
noncomputable abbrev Lay := List Stone
noncomputable def lay (L : Lay) : Dat := .tup (L.map stone)
theorem lay_cmp (L M : Lay) : cmpD true (lay L) (lay M) = lx (flat (lay L)) (flat (lay M)) ∧ eqD (lay L) (lay M) = decide (flat (lay L) = flat (lay M)) := by
  have := flD_list (c := 4) (by decide) (L.map stone) (M.map stone) (fun x hx y hy => by
    obtain ⟨p, _, rfl⟩ := List.mem_map.mp hx
    obtain ⟨q, _, rfl⟩ := List.mem_map.mp hy
    exact flD_stone p q) (fun x hx => by obtain ⟨p, _, rfl⟩ := List.mem_map.mp hx; rfl) fun x hx => by obtain ⟨p, _, rfl⟩ := List.mem_map.mp hx; rfl
  simp only [lay, cmpD, eqD, flat]
  exact this
theorem stone_inj {p q : Stone} (h : stone p = stone q) : p = q := by
  obtain ⟨a, b⟩ := p
  obtain ⟨c, d⟩ := q
  simp only [stone, Dat.tup.injEq, List.cons.injEq, and_true] at h
  rw [sq_inj h.1, sq_inj h.2]
theorem flat_sq_inj {p q : Sq} (h : flat (sq p) = flat (sq q)) : p = q := by
  obtain ⟨a, b⟩ := p
  obtain ⟨c, d⟩ := q
  simp [sq, flat, flatL] at h
  rw [h.1, h.2]
theorem flat_stone_inj {p q : Stone} (h : flat (stone p) = flat (stone q)) : p = q := by
  obtain ⟨⟨a, b⟩, a', b'⟩ := p
  obtain ⟨⟨c, d⟩, c', d'⟩ := q
  simp [stone, sq, flat, flatL] at h
  obtain ⟨rfl, rfl, rfl, rfl⟩ := h
  rfl
theorem flat_lay_inj : ∀ {L M : Lay}, flat (lay L) = flat (lay M) → L = M
  | [], [], _ => rfl
  | [], _ :: _, h => by simp [lay, flat, flatL, stone, sq] at h
  | _ :: _, [], h => by simp [lay, flat, flatL, stone, sq] at h
  | p :: L, q :: M, h => by
    have h' : flat (stone p) ++ flat (lay L) = flat (stone q) ++ flat (lay M) := h
    obtain ⟨h1, h2⟩ := List.append_inj h' (by rw [(flD_stone p q).lx, (flD_stone p q).ly])
    rw [flat_stone_inj h1, flat_lay_inj h2]
structure TyD (α : Type) where
  f : α → Dat
  inj : ∀ {x y}, flat (f x) = flat (f y) → x = y
  lt : ∀ x y, cmpD true (f x) (f y) = lx (flat (f x)) (flat (f y))
  eq : ∀ x y, eqD (f x) (f y) = decide (flat (f x) = flat (f y))
  pl : ∀ x, plainD 8 (f x) = true
  ord : ∀ x y, ordC 8 (f x) (f y) = true
section
variable {α : Type} (T : TyD α)
noncomputable def TyD.le (x y : α) : Bool := !lx (flat (T.f y)) (flat (T.f x))
noncomputable def TyD.lt' (x y : α) : Prop := lx (flat (T.f x)) (flat (T.f y)) = true
noncomputable def TyD.sort (l : List α) : List α := l.mergeSort T.le
theorem TyD.sort_perm (l : List α) : (T.sort l).Perm l := List.mergeSort_perm l _
theorem TyD.le_trans (x y z : α) (h1 : T.le x y = true) (h2 : T.le y z = true) : T.le x z = true := by
  unfold TyD.le at *
  simp only [Bool.not_eq_true'] at *
  cases e : lx (flat (T.f z)) (flat (T.f x)) with
  | false => rfl
  | true =>
    rcases lexLt_nt (b := flat (T.f y)) e with q | q
    · rw [show lx = HT.lexLt from rfl] at h2; rw [h2] at q; cases q
    · rw [show lx = HT.lexLt from rfl] at h1; rw [h1] at q; cases q
theorem TyD.le_total (x y : α) : (T.le x y || T.le y x) = true := by
  unfold TyD.le
  cases e : lx (flat (T.f y)) (flat (T.f x)) with
  | false => rfl
  | true =>
    cases e2 : lx (flat (T.f x)) (flat (T.f y)) with
    | false => rfl
    | true =>
      have := lexLt_tr e e2
      rw [lexLt_irr] at this
      cases this
theorem TyD.sort_sorted (l : List α) : (T.sort l).Pairwise fun x y => T.le x y = true := List.pairwise_mergeSort T.le_trans T.le_total l
theorem TyD.uniq : ∀ {l m : List α}, l.Perm m → l.Pairwise (fun x y => T.le x y = true) → m.Pairwise (fun x y => T.le x y = true) → l = m
  | [], m, p, _, _ => by rw [List.nil_perm.mp p]
  | x :: l, [], p, _, _ => by have := p.length_eq; simp at this
  | x :: l, y :: m, p, h1, h2 => by
    obtain ⟨a1, a2⟩ := List.pairwise_cons.mp h1
    obtain ⟨b1, b2⟩ := List.pairwise_cons.mp h2
    have hxy : x = y := by
      have hx : x ∈ y :: m := p.mem_iff.mp (List.mem_cons_self ..)
      have hy : y ∈ x :: l := p.mem_iff.mpr (List.mem_cons_self ..)
      rcases List.mem_cons.mp hx with e | hx
      · exact e
      rcases List.mem_cons.mp hy with e | hy
      · exact e.symm
      have q1 := a1 y hy
      have q2 := b1 x hx
      unfold TyD.le at q1 q2
      simp only [Bool.not_eq_true'] at q1 q2
      exact T.inj (lexLt_tot q2 q1)
    subst hxy
    rw [TyD.uniq (List.perm_cons _ |>.mp p) a2 b2]
end
theorem ord_of {α : Type} (T : TyD α) (l : List α) (one : (∀ x, ∃ i r, T.f x = .tup (.int i :: r)) ∨ ∀ x, x ∈ l → ∃ k r, T.f x = .tup (.tup k :: r)) : OrdL flat (l.map T.f) := by
  refine ⟨fun x hx y hy => ?_, fun x hx y hy => ?_, fun x hx => ?_, fun x hx => ?_, ?_⟩
  · obtain ⟨p, _, rfl⟩ := List.mem_map.mp hx; obtain ⟨q, _, rfl⟩ := List.mem_map.mp hy; exact T.lt p q
  · obtain ⟨p, _, rfl⟩ := List.mem_map.mp hx; obtain ⟨q, _, rfl⟩ := List.mem_map.mp hy; exact T.ord p q
  · obtain ⟨p, _, rfl⟩ := List.mem_map.mp hx; exact T.pl p
  · obtain ⟨p, hp, rfl⟩ := List.mem_map.mp hx
    rcases one with o | o
    · obtain ⟨i, r, e⟩ := o p; exact ⟨_, _, e⟩
    · obtain ⟨i, r, e⟩ := o p hp; exact ⟨_, _, e⟩
  · rcases one with o | o
    · exact .inl fun x hx => by obtain ⟨p, _, rfl⟩ := List.mem_map.mp hx; exact o p
    · exact .inr fun x hx => by obtain ⟨p, hp, rfl⟩ := List.mem_map.mp hx; exact o p hp
theorem perm_map {α : Type} (f : α → Dat) : ∀ {l' : List Dat} {l : List α}, l'.Perm (l.map f) → ∃ m : List α, l' = m.map f ∧ m.Perm l := by
  intro l' l p
  have : ∀ {a b : List Dat}, a.Perm b → ∀ l : List α, b = l.map f → ∃ m : List α, a = m.map f ∧ m.Perm l := by
    intro a b p
    induction p with
    | nil => intro l e; exact ⟨[], rfl, by cases l with | nil => exact .refl _ | cons _ _ => simp at e⟩
    | cons x p ih =>
      intro l e
      cases l with
      | nil => simp at e
      | cons y l =>
        rw [List.map_cons] at e
        obtain ⟨rfl, e2⟩ := List.cons.inj e
        obtain ⟨m, h1, h2⟩ := ih l e2
        exact ⟨y :: m, by rw [h1]; rfl, h2.cons _⟩
    | swap x y r =>
      intro l e
      match l, e with
      | y' :: x' :: l, e =>
        simp only [List.map_cons, List.cons.injEq] at e
        obtain ⟨rfl, rfl, rfl⟩ := e
        exact ⟨x' :: y' :: l, rfl, .swap ..⟩
      | [], e => simp at e
      | [_], e => simp at e
    | trans p1 p2 i1 i2 =>
      intro l e
      obtain ⟨m, h1, h2⟩ := i2 l e
      obtain ⟨m2, h3, h4⟩ := i1 m h1
      exact ⟨m2, h3, h4.trans h2⟩
  exact this p l rfl
section
variable {X : Cx} {ρ : Rho} {G : Gs} {a : Expr} {d1 : Dat} {pos : Pos}
theorem px_sortedT {α : Type} (T : TyD α) (l : List α) {pp : Pos} (hu : X.A.units + 20 < cLine) (hm : X.mg "sorted" = none) (ha : PX X ρ G a d1) (hl : d1 = .lst (l.map T.f) ∨ ∃ p, d1 = .fn p ∧ G p = some (.lst (l.map T.f))) (one : (∀ x, ∃ i r, T.f x = .tup (.int i :: r)) ∨ ∀ x, x ∈ l → ∃ k r, T.f x = .tup (.tup k :: r))
    (hg : Gl X "sorted" := by rfl) (he : starEach [a] X.env = (false, eval a X.env) :: starEach [] X.env := by rfl) : PX X ρ G (.Call (.Name "sorted" pp) [a] [] pos) (.lst ((T.sort l).map T.f)) :=
  px_sorted flat hu hm ha hl (ord_of T l one) (fun l' hp hs => by
    obtain ⟨m, rfl, hm'⟩ := perm_map T.f hp
    rw [TyD.uniq T (hm'.trans (T.sort_perm l).symm) ?_ (T.sort_sorted l)]
    rw [List.map_map, List.pairwise_map] at hs
    refine hs.imp fun {x y} h => ?_
    unfold TyD.le
    have : lx (flat (T.f y)) (flat (T.f x)) = false := h
    rw [this]; rfl) hg he
end
noncomputable def TSq : TyD Sq := ⟨sq, flat_sq_inj, fun x y => (flD_sq x y).lt, fun x y => (flD_sq x y).eq, fun x => plain_sq x 7, fun _ _ => rfl⟩
theorem plain_stone (p : Stone) : plainD 8 (stone p) = true := by
  simp only [stone, plainD, List.all_cons, List.all_nil, Bool.and_true, Bool.and_eq_true]
  exact ⟨plain_sq _ 6, plain_sq _ 6⟩
noncomputable def TSt : TyD Stone := ⟨stone, flat_stone_inj, fun x y => (flD_stone x y).lt, fun x y => (flD_stone x y).eq, plain_stone, fun _ _ => rfl⟩
theorem plain_lay (L : Lay) : plainD 8 (lay L) = true := by
  simp only [lay, plainD, List.all_eq_true]
  intro x hx
  obtain ⟨p, _, rfl⟩ := List.mem_map.mp hx
  simp only [stone, plainD, List.all_cons, List.all_nil, Bool.and_true, Bool.and_eq_true]
  exact ⟨plain_sq _ 5, plain_sq _ 5⟩
theorem ord_lay (L M : Lay) : ordC 8 (lay L) (lay M) = true := by
  simp only [lay, ordC, List.all_eq_true]
  intro x hx
  have := List.of_mem_zip (show (x.1, x.2) ∈ _ from hx)
  obtain ⟨p, _, e1⟩ := List.mem_map.mp this.1
  obtain ⟨q, _, e2⟩ := List.mem_map.mp this.2
  rw [← e1, ← e2]
  rfl
noncomputable def TLay : TyD Lay := ⟨lay, flat_lay_inj, fun x y => (lay_cmp x y).1, fun x y => (lay_cmp x y).2, plain_lay, ord_lay⟩
end TF
namespace TF
open PySem PySem.Spec L2
open PyProof.Rows hiding St RelV
theorem items_eqAt {s : Shared} {A : Around} {n : Nat} (hu : A.units + 1 + n < cLine) {l m : List Dat} {is js : List Value} (hl : l.all (plainD n) = true) (hm : m.all (plainD n) = true) (rl : AtL s.heap l is) (rm : AtL s.heap m js) :
    ∀ j (h1 : j < is.toArray.size) (h2 : j < js.toArray.size), SeqAt.EqAt A.in1 s is.toArray[j] js.toArray[j] ((fun j => match l[j]?, m[j]? with | some x, some y => eqD x y | _, _ => true) j) := by
  intro j h1 h2
  have h1' : j < is.length := by simpa using h1
  have h2' : j < js.length := by simpa using h2
  have l1 : j < l.length := by rw [← rl.length]; exact h1'
  have l2 : j < m.length := by rw [← rm.length]; exact h2'
  obtain ⟨u1, f1, q1⟩ := rl.get (List.getElem?_eq_getElem l1)
  obtain ⟨u2, f2, q2⟩ := rm.get (List.getElem?_eq_getElem l2)
  rw [List.getElem?_eq_getElem h1'] at f1
  rw [List.getElem?_eq_getElem h2'] at f2
  cases f1
  cases f2
  have hx : plainD n l[j] = true := List.all_eq_true.mp hl _ (List.getElem_mem l1)
  have hy : plainD n m[j] = true := List.all_eq_true.mp hm _ (List.getElem_mem l2)
  have := (eqAt_D (A := A.in1) n hx hy q1 q2 hu).1
  simpa [List.getElem?_eq_getElem l1, List.getElem?_eq_getElem l2] using this
noncomputable def alike : Dat → Dat → Bool
  | .tup _, .tup _ => true
  | .lst _, .lst _ => true
  | .int _, .int _ => true
  | .str _, .str _ => true
  | .bl _, .bl _ => true
  | _, _ => false
theorem neAt_D {s : Shared} {A : Around} {d e : Dat} {u v : Value} (ha : alike d e = true) (hd : plainD 9 d = true) (he : plainD 9 e = true) (rd : AtH s.heap d u) (re : AtH s.heap e v) (hu : A.units + 9 < cLine) : SeqAt.RcNeAt A s u v (!eqD d e) := by
  cases d <;> cases e <;> simp only [alike, Bool.false_eq_true] at ha <;> rw [AtH] at rd re
  · subst rd; subst re; simp only [eqD]; exact SeqAt.RcNeAt.bool_bool _ _
  · obtain ⟨t, rfl⟩ := rd; obtain ⟨t', rfl⟩ := re; simp only [eqD]; exact SeqAt.RcNeAt.int_int _ _ _ _
  · obtain ⟨t, rfl⟩ := rd; obtain ⟨t', rfl⟩ := re; simp only [eqD]; exact SeqAt.RcNeAt.str_str _ _ _ _
  · rename_i l m
    obtain ⟨a, is, rfl, ti, rl⟩ := rd
    obtain ⟨b, js, rfl, tj, rm⟩ := re
    have := SeqAt.RcNeAt.tuples (A := A) ti tj (by omega) (items_eqAt (n := 8) (by omega) (by simpa [plainD] using hd) (by simpa [plainD] using he) rl rm)
    rw [eqD, eqL_range]
    rw [List.size_toArray, List.size_toArray, rl.length, rm.length] at this
    exact this
  · rename_i l m
    obtain ⟨a, is, rfl, ti, rl⟩ := rd
    obtain ⟨b, js, rfl, tj, rm⟩ := re
    have e1 : is.toArray.size = l.length := by rw [List.size_toArray, rl.length]
    have e2 : js.toArray.size = m.length := by rw [List.size_toArray, rm.length]
    rw [eqD, eqL_range]
    by_cases hsz : l.length = m.length
    · have := SeqAt.RcNeAt.lists (A := A) ti tj (by rw [e1, e2, hsz]) (by omega) (items_eqAt (n := 8) (by omega) (by simpa [plainD] using hd) (by simpa [plainD] using he) rl rm)
      rw [e1] at this
      rw [hsz, Nat.min_self, beq_self_eq_true, Bool.and_true, ← hsz]
      exact this
    · have := SeqAt.RcNeAt.lists_lengths (A := A) ti tj (by rw [e1, e2]; simpa using hsz) (by omega)
      rw [show (l.length == m.length) = false by simpa using hsz, Bool.and_false]
      exact this
section
variable {X : Cx} {ρ : Rho} {G : Gs} {e a b c : Expr} {es : List Expr} {d d' d1 d2 d3 k : Dat} {ds l m : List Dat} {pos : Pos} {i j z : Int} {p : Addr} {D : DE} {rest body : List Stmt}
theorem op_neD (hu : X.A.units + 9 < cLine) : OpR X (compareOp .NotEq) (fun x y H Q => ∃ d e, Rep X.K H d x ∧ Rep X.K H e y ∧ alike d e = true ∧ plainD 9 d = true ∧ plainD 9 e = true ∧ Q (.bl (!eqD d e)) H) := by
  intro pins s σ H x y v u Q I rx ry h
  obtain ⟨d, e, h1, h2, h3, h4, h5, q⟩ := h
  exact neAt_D h3 h4 h5 (h1.at I h4 rx) (h2.at I h5 ry) hu _ _ _ _ ⟨.bl _, H, I, rfl, q⟩
theorem op_cmpD (st : Bool) (hu : X.A.units + 9 < cLine) : OpR X (compareOp (opOf st)) (fun x y H Q => ∃ d e, Rep X.K H d x ∧ Rep X.K H e y ∧ ordC 9 d e = true ∧ plainD 9 d = true ∧ plainD 9 e = true ∧ Q (.bl (cmpD st d e)) H) := by
  intro pins s σ H x y v u Q I rx ry h
  obtain ⟨d, e, h1, h2, h3, h4, h5, q⟩ := h
  have := ltAt_D (A := X.A) (s := s) st 9 h3 h4 h5 (h1.at I h4 rx) (h2.at I h5 ry) hu X.prog X.w X.xe (EP X pins σ Q) ⟨.bl _, H, I, rfl, q⟩
  cases st with
  | true => exact this
  | false => exact this
theorem pxc_neD (hu : X.A.units + 9 < cLine) (ha : PX X ρ G a d1) (hb : PX X ρ G b d2) (h : alike d1 d2 = true) (p1 : plainD 9 d1 = true) (p2 : plainD 9 d2 = true) : PXC X ρ G .NotEq a b (.bl (!eqD d1 d2)) :=
  pxc_op (op_neD hu) ha hb fun H x y Q o hx hy k => ⟨d1, d2, hx.same hid_le, hy.same hid_le, h, p1, p2, k _ _ (po1' o rfl)⟩
theorem pxc_ltD (hu : X.A.units + 9 < cLine) (ha : PX X ρ G a d1) (hb : PX X ρ G b d2) (h : ordC 9 d1 d2 = true) (p1 : plainD 9 d1 = true) (p2 : plainD 9 d2 = true) : PXC X ρ G .Lt a b (.bl (cmpD true d1 d2)) :=
  pxc_op (op_cmpD true hu) ha hb fun H x y Q o hx hy k => ⟨d1, d2, hx.same hid_le, hy.same hid_le, h, p1, p2, k _ _ (po1' o rfl)⟩
theorem we_catE {Q : Dat → Gs → Prop} (ha : PX X ρ G a (.lst l)) (hb : WE X ρ G b fun d G' => ∃ m, d = .lst m ∧ l.length + m.length ≤ sizeLine ∧ Q (.lst (l ++ m)) G') : WE X ρ G (.BinOp a .Add b pos) Q :=
  we_pe (pe_op op_cat pe_we pe_we) fun σ H S => ⟨ρ, G, _, ha, S, fun x H1 ⟨_, _, e1, o1, r1, q1, q1'⟩ => by
    subst q1; subst q1'
    refine ⟨ρ, _, _, hb, S.ext e1 o1, fun y H2 ⟨d2, G2, e2, o2, r2, m, hm, hz, q⟩ => ?_⟩
    subst hm
    have r1' := r1.same e2.hid
    rw [Rep] at r1' r2
    obtain ⟨p1, vs1, rfl, h1, s1⟩ := r1'
    obtain ⟨p2, vs2, rfl, h2, s2⟩ := r2
    refine ⟨p1, p2, vs1, vs2, rfl, rfl, hid_le _ _ h1, hid_le _ _ h2, by rw [s1.length, s2.length]; exact hz, fun t ht => ?_⟩
    have E3 : Ext H2 G2 (upd H2 t (.lst (vs1 ++ vs2))) G2 := Ext.alloc ht
    refine ⟨.lst (l ++ m), G2, (e1.trans e2).trans E3, o2.alloc ht, ?_, q⟩
    rw [Rep]
    exact ⟨t, vs1 ++ vs2, rfl, hid_of (o2.free ht) upd_same, (s1.append s2).same E3.hid⟩⟩
end
section
variable {X : Cx} {ρ : Rho} {G : Gs} {elt target iter c : Expr} {scope : Scope} {cpos : Pos} {Nc : List Str} {caps : List (Option Nat)} {l : List Dat} {f : Dat → Rho → Option Rho}
theorem we_compR (g : Dat → Dat) (R : Gs → Prop) {Q : Dat → Gs → Prop} (Sc : CompSc X scope Nc caps) (hcalm : X.calm = true) (hi : WI X ρ G target iter fun l' G' => l' = l ∧ R G')
    (hg : ∀ C s' H' fp, PGD (compCx X Nc scope C s' H' fp) target f) (hle : ∀ d ρ', f d (pick caps ρ) = some ρ' → ρ'.length = (pick caps ρ).length ∧ ∀ (j : Nat) e, (pick caps ρ)[j]? = some (some e) → ρ'[j]? = some (some e)) (hz : l.length < sizeLine)
    (hstep : ∀ C s' H' fp G' d, d ∈ l → ∃ ρ', f d (pick caps ρ) = some ρ' ∧ PX (compCx X Nc scope C s' H' fp) ρ' G' elt (g d)) (hQ : ∀ G', R G' → Q (.lst (l.map g)) G') (hfs : ∀ x, foldedSetIterable iter X.env x = pure x := by intro _; rfl) :
    WE X ρ G (.ListComp elt [⟨target, iter, [], 0⟩] scope cpos) Q := by
  refine we_comp (Pv := fun i acc G' => R G' ∧ acc = (l.take i).map g) (turnIs_0 elt target iter scope cpos) Sc hcalm (fun pins s σ H I S => thn (hi pins s σ H I S) fun v s1 h1 => thn h1 fun itv s2 hh => by obtain ⟨it, fp, tn, J, H', e, I', T, st, fk, l', G', e', o', wk, q1, q2⟩ := hh; exact ⟨it, fp, tn, J, H', e, I', T, st, fk, l', G', e', o', wk, q1, q2, by simp⟩) hg hle (Nat.le_of_lt hz) ?_ ?_ hfs
  · rintro C s' H' fp Dd i d acc G' hd ⟨hR, rfl⟩ hD
    obtain ⟨ρ', h1, h2⟩ := hstep C s' H' fp (put G' Dd (.lst ((l.take i).map g))) d (List.mem_of_getElem? hd)
    refine ⟨ρ', h1, wtail_emit rfl put_same ?_ (PX.we h2 ⟨put_same, _, G', ?_, hD, put_put, hR, ?_⟩)⟩
    · have : ((l.take i).map g).length ≤ l.length := by rw [List.length_map, List.length_take]; omega
      omega
    · simp
    · rw [List.take_add_one, hd]
      simp
  · rintro acc G' ⟨hR, rfl⟩
    rw [List.take_length]
    exact hQ G' hR
end
end TF
namespace TF
open PySem PySem.Spec L2
open PyProof.Rows hiding St RelV
noncomputable def remM (F : List Sq) (z o : Sq) : List Sq := F.filter fun x => !decide (x = z) && !decide (x = o)
noncomputable def lastD (F : List Sq) : Sq := F.getLastD (0, 0)
noncomputable def nearM (F : List Sq) (z : Sq) : List Sq := (nbM z).filter F.contains
noncomputable def everyF : Nat → List Sq → List Lay
  | 0, F => if F = [] then [[]] else []
  | n + 1, F => if F = [] then [[]] else (nearM F (lastD F)).flatMap fun o => (everyF n (remM F (lastD F) o)).map (· ++ [(o, lastD F)])
noncomputable def everyM (F : List Sq) : List Lay := everyF F.length F
theorem last_mem {F : List Sq} (h : F ≠ []) : lastD F ∈ F := by
  unfold lastD
  rw [List.getLastD_eq_getLast?, List.getLast?_eq_some_getLast h]
  exact List.getLast_mem h
theorem rem_len {F : List Sq} (h : F ≠ []) (o : Sq) : (remM F (lastD F) o).length < F.length := by
  unfold remM
  refine List.length_filter_lt_length_iff_exists.mpr ⟨_, last_mem h, by simp⟩
theorem everyF_eq : ∀ (n m : Nat) (F : List Sq), F.length ≤ n → F.length ≤ m → everyF n F = everyF m F
  | 0, 0, F, _, _ => rfl
  | 0, m + 1, F, h, _ => by
    have : F = [] := List.length_eq_zero_iff.mp (by omega)
    subst this; rfl
  | n + 1, 0, F, _, h => by
    have : F = [] := List.length_eq_zero_iff.mp (by omega)
    subst this; rfl
  | n + 1, m + 1, F, h1, h2 => by
    unfold everyF
    split
    · rfl
    · rename_i hne
      have : ∀ o, everyF n (remM F (lastD F) o) = everyF m (remM F (lastD F) o) := fun o => everyF_eq n m _ (by have := rem_len hne o; omega) (by have := rem_len hne o; omega)
      simp only [this]
theorem everyM_nil : everyM [] = [[]] := rfl
theorem everyM_ne {F : List Sq} (h : F ≠ []) : everyM F = (nearM F (lastD F)).flatMap fun o => (everyM (remM F (lastD F) o)).map (· ++ [(o, lastD F)]) := by
  unfold everyM
  obtain ⟨n, hn⟩ : ∃ n, F.length = n + 1 := ⟨F.length - 1, by have := List.length_pos_iff.mpr h; omega⟩
  rw [hn]
  conv => lhs; unfold everyF
  rw [if_neg h]
  have : ∀ o, everyF n (remM F (lastD F) o) = everyF (remM F (lastD F) o).length (remM F (lastD F) o) := fun o => everyF_eq _ _ _ (by have := rem_len h o; omega) (Nat.le_refl _)
  simp only [this]
noncomputable def sqsOf (l : Lay) : List Sq := l.flatMap fun s => [s.1, s.2]
structure Cov (F : List Sq) (l : Lay) : Prop where
  st : ∀ s ∈ l, sqLt s.1 s.2 ∧ s.2 ∈ nbM s.1
  pm : (sqsOf l).Perm F
theorem mem_sqs {l : Lay} {x : Sq} : x ∈ sqsOf l ↔ ∃ s ∈ l, x = s.1 ∨ x = s.2 := by
  unfold sqsOf
  simp [List.mem_flatMap]
theorem sqs_perm {l m : Lay} (h : l.Perm m) : (sqsOf l).Perm (sqsOf m) := h.flatMap_right _
theorem nb_symm {a b : Sq} (h : a ∈ nbM b) : b ∈ nbM a := by
  obtain ⟨a1, a2⟩ := a
  obtain ⟨b1, b2⟩ := b
  simp only [nbM, List.mem_cons, List.not_mem_nil, or_false, Prod.mk.injEq] at *
  rcases h with ⟨h1, h2⟩ | ⟨h1, h2⟩ | ⟨h1, h2⟩ | ⟨h1, h2⟩ <;> subst h1 h2
  · exact .inr (.inr (.inr ⟨(Int.sub_add_cancel _ _).symm, rfl⟩))
  · exact .inr (.inr (.inl ⟨rfl, (Int.sub_add_cancel _ _).symm⟩))
  · exact .inr (.inl ⟨rfl, (Int.add_sub_cancel _ _).symm⟩)
  · exact .inl ⟨(Int.add_sub_cancel _ _).symm, rfl⟩
theorem nb_ne {a b : Sq} (h : a ∈ nbM b) : a ≠ b := by
  rintro rfl
  obtain ⟨a1, a2⟩ := a
  simp only [nbM, List.mem_cons, List.not_mem_nil, or_false, Prod.mk.injEq] at h
  omega
theorem last_max {F : List Sq} (up : F.Pairwise sqLt) {x : Sq} (hx : x ∈ F) : x = lastD F ∨ sqLt x (lastD F) := by
  have h : F ≠ [] := List.ne_nil_of_mem hx
  unfold lastD
  rw [List.getLastD_eq_getLast?, List.getLast?_eq_some_getLast h, Option.getD_some]
  rw [← List.dropLast_concat_getLast h] at hx up
  rcases List.mem_append.mp hx with h1 | h1
  · right
    exact (List.pairwise_append.mp up).2.2 x h1 _ (by simp)
  · left; simpa using h1
theorem up_nd {F : List Sq} (up : F.Pairwise sqLt) : F.Nodup := up.imp fun {a b} hab e => by subst e; exact sqLt_irrefl _ hab
theorem mem_rem {F : List Sq} {z o x : Sq} : x ∈ remM F z o ↔ x ∈ F ∧ x ≠ z ∧ x ≠ o := by simp [remM]
theorem rem_perm {F : List Sq} (nd : F.Nodup) {z o : Sq} (hz : z ∈ F) (ho : o ∈ F) (hne : o ≠ z) : (o :: z :: remM F z o).Perm F := by
  rw [List.perm_ext_iff_of_nodup _ nd]
  · intro x
    simp only [List.mem_cons, mem_rem]
    by_cases h1 : x = o
    · subst h1; simp [ho]
    · by_cases h2 : x = z
      · subst h2; simp [hz]
      · simp [h1, h2]
  · refine List.nodup_cons.mpr ⟨?_, List.nodup_cons.mpr ⟨?_, nd.sublist List.filter_sublist⟩⟩
    · simp only [List.mem_cons, mem_rem]; rintro (h | h)
      · exact hne h
      · exact h.2.2 rfl
    · simp [mem_rem]
theorem rem_up {F : List Sq} (up : F.Pairwise sqLt) (z o : Sq) : (remM F z o).Pairwise sqLt := up.sublist List.filter_sublist
theorem mem_near {F : List Sq} {z o : Sq} : o ∈ nearM F z ↔ o ∈ nbM z ∧ o ∈ F := by simp [nearM]
theorem rem_len2 {F : List Sq} (up : F.Pairwise sqLt) {o : Sq} (h : F ≠ []) (ho : o ∈ nearM F (lastD F)) : (remM F (lastD F) o).length + 2 = F.length := by
  obtain ⟨h1, h2⟩ := mem_near.mp ho
  have := (rem_perm (up_nd up) (last_mem h) h2 (nb_ne h1)).length_eq
  simpa using this
theorem sqs_app (l m : Lay) : sqsOf (l ++ m) = sqsOf l ++ sqsOf m := by simp [sqsOf]
theorem every_cov : ∀ (n : Nat) {F : List Sq}, F.length ≤ n → F.Pairwise sqLt → ∀ r ∈ everyM F, Cov F r := by
  intro n
  induction n with
  | zero =>
    intro F hl up r hr
    have : F = [] := List.length_eq_zero_iff.mp (by omega)
    subst this
    rw [everyM_nil, List.mem_singleton] at hr
    subst hr
    exact ⟨by simp, .refl _⟩
  | succ n ih =>
    intro F hl up r hr
    by_cases h : F = []
    · subst h
      rw [everyM_nil, List.mem_singleton] at hr
      subst hr
      exact ⟨by simp, .refl _⟩
    rw [everyM_ne h, List.mem_flatMap] at hr
    obtain ⟨o, ho, hr⟩ := hr
    obtain ⟨r', hr', rfl⟩ := List.mem_map.mp hr
    have hl2 := rem_len2 up h ho
    obtain ⟨h1, h2⟩ := mem_near.mp ho
    have C := ih (by omega) (rem_up up _ _) r' hr'
    refine ⟨fun s hs => ?_, ?_⟩
    · rcases List.mem_append.mp hs with hs | hs
      · exact C.st s hs
      · rw [List.mem_singleton.mp hs]
        refine ⟨?_, nb_symm h1⟩
        rcases last_max up h2 with e | e
        · exact absurd e (nb_ne h1)
        · exact e
    · rw [sqs_app]
      show (sqsOf r' ++ [o, lastD F]).Perm F
      exact (List.perm_append_comm.trans (C.pm.append_left [o, lastD F])).trans (rem_perm (up_nd up) (last_mem h) h2 (nb_ne h1))
theorem every_all : ∀ (n : Nat) {F : List Sq} {l : Lay}, F.length ≤ n → F.Pairwise sqLt → Cov F l → ∃ r ∈ everyM F, r.Perm l := by
  intro n
  induction n with
  | zero =>
    intro F l hl up C
    have : F = [] := List.length_eq_zero_iff.mp (by omega)
    subst this
    have := C.pm.length_eq
    cases l with
    | nil => exact ⟨[], by simp [everyM_nil], .refl _⟩
    | cons s l => simp [sqsOf] at this
  | succ n ih =>
    intro F l hl up C
    by_cases h : F = []
    · subst h
      have := C.pm.length_eq
      cases l with
      | nil => exact ⟨[], by simp [everyM_nil], .refl _⟩
      | cons s l => simp [sqsOf] at this
    obtain ⟨s, hs, he⟩ := mem_sqs.mp (C.pm.mem_iff.mpr (last_mem h))
    have hs1 : s.1 ∈ F := C.pm.mem_iff.mp (mem_sqs.mpr ⟨s, hs, .inl rfl⟩)
    have hs2 : s.2 ∈ F := C.pm.mem_iff.mp (mem_sqs.mpr ⟨s, hs, .inr rfl⟩)
    obtain ⟨slt, snb⟩ := C.st s hs
    have hz : s.2 = lastD F := by
      rcases he with e | e
      · rcases last_max up hs2 with q | q
        · exact q
        · rw [e] at q; exact absurd (sqLt_trans slt q) (sqLt_irrefl _)
      · exact e.symm
    have ho : s.1 ∈ nearM F (lastD F) := mem_near.mpr ⟨hz ▸ nb_symm snb, hs1⟩
    have hp : l.Perm (s :: l.erase s) := List.perm_cons_erase hs
    have hp2 : (s.1 :: s.2 :: sqsOf (l.erase s)).Perm F := by
      refine List.Perm.trans ?_ C.pm
      exact (sqs_perm hp).symm
    have hl2 := rem_len2 up h ho
    have C' : Cov (remM F (lastD F) s.1) (l.erase s) := by
      refine ⟨fun t ht => C.st t (List.mem_of_mem_erase ht), ?_⟩
      have := hp2.trans (rem_perm (up_nd up) (last_mem h) hs1 (nb_ne (mem_near.mp ho).1)).symm
      rw [hz] at this
      exact (List.perm_cons _).mp ((List.perm_cons _).mp this)
    obtain ⟨r, hr, hrp⟩ := ih (by omega) (rem_up up _ _) C'
    refine ⟨r ++ [(s.1, lastD F)], ?_, ?_⟩
    · rw [everyM_ne h, List.mem_flatMap]
      exact ⟨s.1, ho, List.mem_map.mpr ⟨r, hr, rfl⟩⟩
    · rw [show (s.1, lastD F) = s by rw [← hz]]
      exact (List.perm_append_comm.trans (hrp.append_left [s])).trans hp.symm
theorem near_nd (F : List Sq) (z : Sq) : (nearM F z).Nodup := (nb_nodup z).sublist List.filter_sublist
theorem near_two {F : List Sq} (up : F.Pairwise sqLt) : (nearM F (lastD F)).length ≤ 2 := by
  have hs : ∀ x ∈ nearM F (lastD F), x ∈ [((lastD F).1 - 1, (lastD F).2), ((lastD F).1, (lastD F).2 - 1)] := by
    intro x hx
    obtain ⟨h1, h2⟩ := mem_near.mp hx
    rcases last_max up h2 with e | e
    · exact absurd e (nb_ne h1)
    · generalize lastD F = z at *
      obtain ⟨x1, x2⟩ := x
      obtain ⟨z1, z2⟩ := z
      simp only [nbM, List.mem_cons, List.not_mem_nil, or_false, Prod.mk.injEq] at h1 ⊢
      have e' : x1 < z1 ∨ (x1 = z1 ∧ x2 < z2) := e
      clear e h2 hx
      rcases h1 with h1 | h1 | ⟨h1, h3⟩ | ⟨h1, h3⟩
      · exact .inl h1
      · exact .inr h1
      · omega
      · omega
  have := nodup_le (near_nd F (lastD F)) hs
  simpa using this
theorem every_len : ∀ (n : Nat) {F : List Sq}, F.length ≤ 2 * n → F.Pairwise sqLt → (everyM F).length ≤ 2 ^ n := by
  intro n
  induction n with
  | zero =>
    intro F hl up
    have : F = [] := List.length_eq_zero_iff.mp (by omega)
    subst this
    rw [everyM_nil]; exact Nat.le_refl _
  | succ n ih =>
    intro F hl up
    by_cases h : F = []
    · subst h; rw [everyM_nil]; exact Nat.one_le_two_pow
    rw [everyM_ne h, List.length_flatMap]
    have : ∀ (l : List Sq), (∀ o ∈ l, o ∈ nearM F (lastD F)) → (l.map fun o => ((everyM (remM F (lastD F) o)).map (· ++ [(o, lastD F)])).length).sum ≤ l.length * 2 ^ n := by
      intro l
      induction l with
      | nil => simp
      | cons o l ihl =>
        intro hm
        have h1 := ihl fun x hx => hm x (List.mem_cons_of_mem _ hx)
        have hl2 := rem_len2 up h (hm o (List.mem_cons_self ..))
        have h2 := ih (F := remM F (lastD F) o) (by omega) (rem_up up _ o)
        rw [List.map_cons, List.sum_cons, List.length_map, List.length_cons, Nat.succ_mul]
        omega
    have h3 := this _ fun _ h => h
    have h4 := Nat.mul_le_mul_right (2 ^ n) (near_two up)
    rw [Nat.pow_succ, Nat.mul_comm]
    omega
theorem lx_stone (s t : Stone) : lx (flat (stone s)) (flat (stone t)) = decide (sqLt s.1 t.1 ∨ (s.1 = t.1 ∧ sqLt s.2 t.2)) := by
  obtain ⟨⟨a, b⟩, c, d⟩ := s
  obtain ⟨⟨a', b'⟩, c', d'⟩ := t
  show HT.lexLt [a, b, c, d] [a', b', c', d'] = _
  rw [HT.lexLt_cons, HT.lexLt_cons, HT.lexLt_cons, HT.lexLt_cons]
  have e0 : HT.lexLt [] [] = false := rfl
  rw [e0, Bool.eq_iff_iff, decide_eq_true_iff]
  simp only [sqLt, Prod.mk.injEq]
  by_cases h1 : a = a' <;> by_cases h2 : b = b' <;> by_cases h3 : c = c' <;> by_cases h4 : d = d' <;> simp [h1, h2, h3, h4] <;> omega
theorem lx_sq (s t : Sq) : lx (flat (sq s)) (flat (sq t)) = decide (sqLt s t) := by
  obtain ⟨a, b⟩ := s
  obtain ⟨a', b'⟩ := t
  show HT.lexLt [a, b] [a', b'] = _
  rw [HT.lexLt_cons, HT.lexLt_cons]
  have e0 : HT.lexLt [] [] = false := rfl
  rw [e0, Bool.eq_iff_iff, decide_eq_true_iff]
  simp only [sqLt]
  by_cases h1 : a = a' <;> by_cases h2 : b = b' <;> simp [h1, h2] <;> omega
structure IsLay (F : List Sq) (l : Lay) : Prop extends Cov F l where
  up : l.Pairwise fun s t => sqLt s.1 t.1
theorem sqs_nd {l : Lay} (h : (sqsOf l).Nodup) : l.Pairwise fun s t => s.1 ≠ t.1 ∧ s.1 ≠ t.2 ∧ s.2 ≠ t.1 ∧ s.2 ≠ t.2 := by
  unfold sqsOf List.Nodup at h
  rw [List.pairwise_flatMap] at h
  refine h.2.imp fun {s t} h => ?_
  exact ⟨h _ (by simp) _ (by simp), h _ (by simp) _ (by simp), h _ (by simp) _ (by simp), h _ (by simp) _ (by simp)⟩
theorem Cov.perm {F : List Sq} {l m : Lay} (C : Cov F l) (h : m.Perm l) : Cov F m := ⟨fun s hs => C.st s (h.mem_iff.mp hs), (sqs_perm h).trans C.pm⟩
theorem Cov.lay {F : List Sq} {l : Lay} (C : Cov F l) (nd : F.Nodup) : IsLay F (TSt.sort l) := by
  have C' := C.perm (TSt.sort_perm l)
  refine ⟨C', ?_⟩
  have h1 := TSt.sort_sorted l
  have h2 := sqs_nd (C'.pm.nodup_iff.mpr nd)
  refine (h1.and h2).imp fun {s t} h => ?_
  obtain ⟨h1, h2, _⟩ := h
  unfold TyD.le at h1
  rw [show TSt.f = stone from rfl, lx_stone] at h1
  simp only [Bool.not_eq_true', decide_eq_false_iff_not, not_or, not_and] at h1
  rcases sqLt_tri s.1 t.1 with h | h | h
  · exact h
  · exact absurd h h2
  · exact absurd h h1.1
theorem IsLay.sorted {F : List Sq} {l : Lay} (I : IsLay F l) : l.Pairwise fun x y => TSt.le x y = true := I.up.imp fun {s t} h => by
  unfold TyD.le
  rw [show TSt.f = stone from rfl, lx_stone]
  simp only [Bool.not_eq_true', decide_eq_false_iff_not, not_or, not_and]
  refine ⟨fun h' => sqLt_irrefl _ (sqLt_trans h h'), fun e => ?_⟩
  rw [e] at h
  exact absurd h (sqLt_irrefl _)
theorem IsLay.uniq {F : List Sq} {l m : Lay} (I : IsLay F l) (J : IsLay F m) (h : l.Perm m) : l = m := TSt.uniq h I.sorted J.sorted
noncomputable def allM (F : List Sq) : List Lay := TLay.sort ((everyM F).map TSt.sort)
theorem mem_all {F : List Sq} (up : F.Pairwise sqLt) {l : Lay} : l ∈ allM F ↔ IsLay F l := by
  unfold allM
  rw [(TLay.sort_perm _).mem_iff, List.mem_map]
  constructor
  · rintro ⟨r, hr, rfl⟩
    exact (every_cov _ (Nat.le_refl _) up r hr).lay (up_nd up)
  · intro I
    obtain ⟨r, hr, hp⟩ := every_all _ (Nat.le_refl _) up I.toCov
    exact ⟨r, hr, ((every_cov _ (Nat.le_refl _) up r hr).lay (up_nd up)).uniq I ((TSt.sort_perm r).trans hp)⟩
end TF
namespace TF
open PySem PySem.Spec L2
open PyProof.Rows hiding St RelV
noncomputable def rowD (r : Lay) : Dat := .lst (r.map stone)
noncomputable def rowsD (l : List Lay) : Dat := .lst (l.map rowD)
noncomputable def ValidE (kvs : List (Dat × Dat)) : Prop := ∀ p ∈ kvs, ∃ F : List Sq, p.1 = fl F ∧ p.2 = rowsD (everyM F)
theorem key_fl (F : List Sq) : keyD 6 (fl F) = true := by
  simp only [keyD, fl]
  rw [List.all_eq_true]
  intro d hd
  obtain ⟨p, _, rfl⟩ := List.mem_map.mp hd
  rfl
theorem ValidE.look {kvs : List (Dat × Dat)} (h : ValidE kvs) {F : List Sq} {d : Dat} (e : lookD kvs (fl F) = some d) : d = rowsD (everyM F) := by
  unfold lookD at e
  obtain ⟨p, hp, rfl⟩ := Option.map_eq_some_iff.mp e
  have hm := List.mem_of_find?_eq_some hp
  have hk := List.find?_some hp
  have hk' : p.1 = fl F := of_decide_eq_true hk
  obtain ⟨F', h1, h2⟩ := h p hm
  rw [hk'] at h1
  rw [fl_inj h1]
  exact h2
theorem ValidE.put {kvs : List (Dat × Dat)} (h : ValidE kvs) (F : List Sq) : ValidE (putD kvs (fl F) (rowsD (everyM F))) := by
  unfold putD
  intro p hp
  split at hp
  · obtain ⟨x, hx, rfl⟩ := List.mem_map.mp hp
    by_cases e : x.1 = fl F
    · rw [if_pos e]; exact ⟨F, e, rfl⟩
    · rw [if_neg e]; exact h x hx
  · rcases List.mem_append.mp hp with hp | hp
    · exact h p hp
    · rw [List.mem_singleton.mp hp]; exact ⟨F, rfl, rfl⟩
theorem lookD_put' (kvs : List (Dat × Dat)) (k v : Dat) : lookD (putD kvs k v) k = some v := by
  by_cases h : (lookD kvs k).isSome = true
  · have : ∀ (kvs : List (Dat × Dat)), (lookD kvs k).isSome = true → lookD (kvs.map fun x => if x.1 = k then (x.1, v) else x) k = some v := by
      intro kvs
      induction kvs with
      | nil => intro h; simp [lookD] at h
      | cons p r ih =>
        intro h
        by_cases e : p.1 = k
        · simp [lookD, e]
        · have h' : (lookD r k).isSome = true := by simpa [lookD, e] using h
          have := ih h'
          simpa [lookD, e] using this
    unfold putD
    rw [if_pos h]
    exact this kvs h
  · unfold putD
    rw [if_neg h]
    have hn : kvs.find? (fun x => decide (x.1 = k)) = none := by
      cases q : kvs.find? (fun x => decide (x.1 = k)) with
      | none => rfl
      | some p => exact absurd (by simp [lookD, q]) h
    simp [lookD, List.find?_append, hn]
noncomputable def spEvery (n : Nat) : SpD := fun ds G R => ∃ (F : List Sq) (kp : Addr) (kvs : List (Dat × Dat)), ds = [fl F, .fn kp] ∧ F.Pairwise sqLt ∧ F.length ≤ 2 * n ∧ n ≤ 12 ∧ G kp = some (.dct kvs) ∧ ValidE kvs ∧ kvs.length + 2 ^ n ≤ 2 ^ 12 + 1 ∧
  ∀ kvs', ValidE kvs' → kvs'.length + 1 ≤ kvs.length + 2 ^ n → R (rowsD (everyM F)) (put G kp (.dct kvs'))
noncomputable def spAll : SpD := fun ds G R => ∃ F : List Sq, ds = [fl F] ∧ F ≠ [] ∧ F.Pairwise sqLt ∧ F.length ≤ 24 ∧ R (.lst ((allM F).map lay)) G
theorem last_at {F : List Sq} (h : F ≠ []) : atI (F.map sq) (-1) = some (sq (lastD F)) := by
  refine atI_map sq ?_
  unfold atI ixN
  have : 0 < F.length := List.length_pos_iff.mpr h
  rw [if_neg (by omega), if_pos (by omega)]
  show F[((F.length : Int) + -1).toNat]? = _
  unfold lastD
  rw [List.getLastD_eq_getLast?, List.getLast?_eq_getElem?]
  rw [show ((F.length : Int) + -1).toNat = F.length - 1 by omega, List.getElem?_eq_getElem (by omega)]
  rfl
theorem cov_len {F : List Sq} {l : Lay} (C : Cov F l) : 2 * l.length = F.length := by
  rw [← C.pm.length_eq]
  unfold sqsOf
  rw [List.length_flatMap]
  clear C
  induction l with
  | nil => rfl
  | cons a l ih => rw [List.map_cons, List.sum_cons, List.length_cons, ← ih]; simp; omega
noncomputable def via {α β : Type} [Inhabited β] (h : α → Dat) (g : α → β) (d : Dat) : β :=
  have := Classical.propDecidable (∃ x, h x = d)
  if e : ∃ x, h x = d then g e.choose else default
noncomputable instance : Inhabited Dat := ⟨.non⟩
theorem via_eq {α β : Type} [Inhabited β] {h : α → Dat} (inj : ∀ {x y}, h x = h y → x = y) (g : α → β) (x : α) : via h g (h x) = g x := by
  unfold via
  have e : ∃ y, h y = h x := ⟨x, rfl⟩
  simp only [e, dif_pos]
  rw [inj e.choose_spec]
theorem map_via {α : Type} {h : α → Dat} (inj : ∀ {x y}, h x = h y → x = y) (g : α → Dat) (l : List α) : (l.map h).map (via h g) = l.map g := by
  rw [List.map_map]
  exact List.map_congr_left fun x _ => via_eq inj g x
theorem map_inj' {α : Type} {h : α → Dat} (inj : ∀ {x y}, h x = h y → x = y) : ∀ {l m : List α}, l.map h = m.map h → l = m
  | [], [], _ => rfl
  | [], _ :: _, h => by simp at h
  | _ :: _, [], h => by simp at h
  | p :: l, q :: m, h => by
    simp only [List.map_cons, List.cons.injEq] at h
    rw [inj h.1, map_inj' inj h.2]
theorem rowD_inj {r r' : Lay} (h : rowD r = rowD r') : r = r' := by
  simp only [rowD, Dat.lst.injEq] at h
  exact map_inj' stone_inj h
end TF
namespace TF
open PySem PySem.Spec L2
open PyProof.Rows hiding St RelV
noncomputable abbrev PM := List (Sq × Sq)
noncomputable def lk (pm : PM) (x : Sq) : Option Sq := (pm.find? fun p => decide (p.1 = x)).map (·.2)
noncomputable def pt (pm : PM) (x y : Sq) : PM := if (lk pm x).isSome then pm.map (fun p => if p.1 = x then (p.1, y) else p) else pm ++ [(x, y)]
noncomputable def two (m : Sq → Option Sq) (s o : Sq) : Sq → Option Sq := fun z => if z = o then some s else if z = s then some o else m z
noncomputable def col (x : Sq) : Int := (x.1 + x.2) % 2
end TF
namespace TF
open PySem PySem.Spec L2
open PyProof.Rows hiding St RelV
theorem cmp_sq (x y : Sq) : cmpD true (sq x) (sq y) = decide (sqLt x y) := by
  have := TSq.lt x y
  rw [show TSq.f = sq from rfl, lx_sq] at this
  exact this
end TF
set_option maxHeartbeats 3200000
namespace TF
open PySem PySem.Spec L2
open PyProof.Rows hiding St RelV
section
variable {prog : Program} {w : World} {A : Around} {E : Value → Shared → Prop} {s : Shared}
theorem nextT_item {it t : Addr} {i : Nat} {items : Array Value} {x : Value} {Q : Value → Shared → Prop} (hit : s.heap.IsTupleIter it t i) (ht : s.heap.IsTuple t items) (hx : items[i]? = some x)
    (hQ : ∀ h', h'.IsTupleIter it t (i + 1) → Heap.SameBut it s.heap h' → Q x { s with heap := h' }) : wpAny (model prog w) A (Builtin.SmallTypes.nextOf (.ref it)) Q E s := by
  obtain ⟨oi, hoi, hci, hdi⟩ := id hit
  obtain ⟨ot, hot, _, nt, hdt⟩ := ht
  unfold Builtin.SmallTypes.nextOf
  refine wpAny_bind (wpAny_callSpecial?_slot (name := Str.ofString "__next__") hit.typeIs F.slot_tuple_iterator_next (wpAny_call_entry F.slot_tuple_iterator_next hit.typeIs F.entry_tuple_iterator_next ?_ (F.args_tuple_iterator_next_1 _)))
  refine wpAny_bind (m := field (.ref it) 0) (wpAny_field hoi hdi (x := .ref t) rfl ?_)
  rw [if_neg (show ¬ ((Value.ref t == Value.none) = true) from Bool.false_ne_true)]
  refine wpAny_bind (m := field (.ref it) 1) (wpAny_field hoi hdi (x := .int i 0) rfl ?_)
  refine wpAny_bind (m := seqItems? (.ref t)) (wpAny_seqItems hot hdt ?_)
  simp only [Int.toNat_natCast, hx]
  refine wpAny_bind (wpAny_setField hoi hdi (by simp) (wpAny_pure ⟨x, rfl, wpAny_pure (hQ _ ⟨_, Heap.get?_update_self _ hoi (Obj.isFreed_of_fields (Obj.data_mapFields hdi _)), (Obj.cls_mapFields ..).trans hci, ?_⟩ (Heap.SameBut.update ..))⟩))
  rw [Obj.data_mapFields hdi]
  simp [rawInt]
theorem nextT_end {it t : Addr} {i : Nat} {items : Array Value} {Q : Value → Shared → Prop} (hh : A.handled = none) (hit : s.heap.IsTupleIter it t i) (ht : s.heap.IsTuple t items) (hx : items[i]? = none)
    (hE : ∀ h' e, Heap.ExtBut it s.heap h' → (∃ o, h'.get? e = some o ∧ o.cls = .type "StopIteration") → E (.ref e) { s with heap := h' }) : wpAny (model prog w) A (Builtin.SmallTypes.nextOf (.ref it)) Q E s := by
  obtain ⟨oi, hoi, hci, hdi⟩ := id hit
  obtain ⟨ot, hot, _, nt, hdt⟩ := ht
  unfold Builtin.SmallTypes.nextOf
  refine wpAny_bind (wpAny_callSpecial?_slot (name := Str.ofString "__next__") hit.typeIs F.slot_tuple_iterator_next (wpAny_call_entry F.slot_tuple_iterator_next hit.typeIs F.entry_tuple_iterator_next ?_ (F.args_tuple_iterator_next_1 _)))
  refine wpAny_bind (m := field (.ref it) 0) (wpAny_field hoi hdi (x := .ref t) rfl ?_)
  rw [if_neg (show ¬ ((Value.ref t == Value.none) = true) from Bool.false_ne_true)]
  refine wpAny_bind (m := field (.ref it) 1) (wpAny_field hoi hdi (x := .int i 0) rfl ?_)
  refine wpAny_bind (m := seqItems? (.ref t)) (wpAny_seqItems hot hdt ?_)
  simp only [Int.toNat_natCast, hx]
  refine wpAny_bind (wpAny_rule (wpAny_bind (wpAny_setField hoi hdi (by simp) ?_)))
  refine wpAny_bind (m := newExc (.type "StopIteration") []) ?_
  simp only [newExc, newTuple]
  refine wpAny_bind (wpAny_newObj_type ?_ (by size_fits))
  refine wpAny_bind (m := firstArgMember _ _) (wpAny_of_eq (a := Value.none) (by first | rfl | (simp only [firstArgMember]; rfl)) ?_)
  refine wpAny_newObj_type ?_ (by size_fits)
  simp only [raiseNew]
  refine wpAny_bind (wpAny_handled ?_)
  first | rw [show A.in1.handled = none from hh] | rw [hh]
  exact wpAny_bind (wpAny_pure (wpAny_throw (hE _ _ (((Heap.SameBut.update ..).extBut.push _).push _) ⟨_, Heap.get?_push_size _ rfl, rfl⟩)))
noncomputable abbrev tiO (t : Addr) : Obj := { cls := .type "tuple_iterator", data := .fields #[.ref t, .int 0 0] }
end
noncomputable def enumD (l : List Dat) : List Dat := (List.range l.length).map fun i => .tup [.int (i : Nat), l.getD i .non]
theorem enumD_get {l : List Dat} {i : Nat} {d : Dat} (h : (enumD l)[i]? = some d) : ∃ e, l[i]? = some e ∧ d = .tup [.int (i : Nat), e] := by
  unfold enumD at h
  rw [List.getElem?_map] at h
  obtain ⟨j, hj, rfl⟩ := Option.map_eq_some_iff.mp h
  have hlt : i < l.length := by simpa using (List.getElem?_eq_some_iff.mp hj).1
  rw [List.getElem?_range hlt] at hj
  cases hj
  exact ⟨l[i], List.getElem?_eq_getElem hlt, by simp [hlt]⟩
theorem enumD_len (l : List Dat) : (enumD l).length = l.length := by simp [enumD]
end TF
namespace TF
open PySem PySem.Spec L2
open PyProof.Rows hiding St RelV
noncomputable def ItG (src : Hp → List V → Prop) : It :=
  ⟨fun i H => ∃ xs x, src H xs ∧ xs[i]? = some x, fun i H x H' => ∃ y T, H T = none ∧ x = .ref T ∧ H' = upd H T (.tup [.int i, y]) ∧ ∀ xs, src H xs → xs[i]? = some y, fun i H => ∃ xs, src H xs ∧ xs.length = i⟩
structure SrcOk (P : Program) (w : World) (K : PySem.W.Frag) (src : Hp → List V → Prop) (it : Addr) (fp : List Addr) (hit : Nat → Heap → Prop) : Prop where
  inj : ∀ {X : Cx} {pins σ H s xs ys}, X.K = K → Inv X pins σ H s → src H xs → src H ys → xs = ys
  obj : ∀ i h, hit i h → ∃ o, h.get? it = some o ∧ ∀ v, o.data ≠ .cell v
  keep : ∀ i h h', hit i h → (∀ o, h.get? it = some o → h'.get? it = some o) → hit i h'
  con : ∀ {X : Cx} {pins σ H s xs}, X.prog = P → X.w = w → X.K = K → X.A.in1.handled = none → Inv X pins σ H s → src H xs → ∃ (Pv : Nat → Value → Prop) (St : Nat → Heap → Prop), Draws X.prog X.w X.A.in1 it fp xs.length Pv St ∧ (∀ i, hit i s.heap → St i s.heap) ∧ (∀ i h, St i h → hit i h) ∧ ∀ i v x, Pv i v → xs[i]? = some x → RelV x v
theorem turn_enumG {P : Program} {w : World} {K : PySem.W.Frag} {elts : List Expr} {x1 : Nat} {pos : Pos} {src : Hp → List V → Prop} {fp : List Addr} {hit : Nat → Heap → Prop} (e it : Addr) (hei : e ≠ it) (hef : e ∉ fp) (D : SrcOk P w K src it fp hit) : Turn P w K (.Tuple elts x1 pos) (ItG src) [e, it] e (fun i h => (∃ old, IsEnum h e it i old) ∧ hit i h) where
  mem := by simp
  obj := fun i h st b hb => by
    obtain ⟨⟨old, he⟩, hi⟩ := st
    obtain ⟨o, ho, d⟩ := D.obj i h hi
    rcases List.mem_cons.mp hb with rfl | hb
    · exact ⟨_, he, fun v z => by cases z⟩
    · rw [List.mem_singleton.mp hb]
      exact ⟨o, ho, fun v z => d v z⟩
  keep := fun i h h' st k => by
    obtain ⟨⟨old, he⟩, hi⟩ := st
    exact ⟨⟨old, k e (by simp) _ he⟩, D.keep i h h' hi fun o ho => k it (by simp) _ ho⟩
  item := by
    intro X hP hw hK hc i pins s σ H E I hf st hg
    subst hP hw hK
    obtain ⟨xs, x, hq, hx⟩ := hg
    obtain ⟨⟨old, he⟩, hit'⟩ := st
    obtain ⟨Pv, St, dr, d1, d2, d3⟩ := D.con rfl rfl rfl (by simpa using I.ok.hd hc) I hq
    have hlt : i < xs.length := (List.getElem?_eq_some_iff.mp hx).1
    refine wpAny_pyNext_enum_itemD dr he (d1 i hit') hlt hei hef fun y h1 tk hy ho st1 hT hsz hk => ?_
    have ru : RelV x y := d3 i y x hy hx
    refine ⟨_, rfl, wpAny_letOwnedTupleGo_enum (s := { s with heap := h1, toks := tk + 1 }) ho fun h2 he2 sb => ?_⟩
    have hsb : ∀ b o, b ≠ e → h1.get? b = some o → h2.get? b = some o := fun b o hb q => sb.extBut b o hb q
    have hTf : H s.heap.objs.size = none := I.hok.fresh (Nat.le_refl _)
    have hel : e < s.heap.objs.size := Heap.lt_size he
    have hTe : s.heap.objs.size ≠ e := Nat.ne_of_gt hel
    have hk2 : ∀ b o, b ≠ e → b ≠ it → s.heap.get? b = some o → h2.get? b = some o := fun b o h3 h4 q => hsb b o h3 (hk b o h3 h4 q)
    have f1 := hf e (by simp)
    have f2 := hf it (by simp)
    have nch : ∀ b o, H b = some o → b ≠ e ∧ b ≠ it := fun b o q => ⟨ne_of_none q f1.1, ne_of_none q f2.1⟩
    have un : Un (frs X.stack) [e, it] H (upd H s.heap.objs.size (.tup [.int i, x])) s.heap h2 := by
      refine ⟨fun b o q n hb hc => ?_, fun b o q n hb hc => ⟨o.slots, ?_⟩, fun b o q n hc => ?_, fun b o q hc => ⟨o, ?_⟩, fun b ys q => ?_, fun b o v q => ?_, fun b ps q => ⟨#[], ?_⟩⟩
      · simp only [List.mem_cons, List.not_mem_nil, or_false, not_or] at hc
        exact hk2 b o hc.1 hc.2 q
      · simp only [List.mem_cons, List.not_mem_nil, or_false, not_or] at hc
        exact hk2 b o hc.1 hc.2 q
      · rw [upd_ne (Nat.ne_of_lt (Heap.lt_size q))]; exact n
      · simp only [List.mem_cons, List.not_mem_nil, or_false, not_or] at hc
        exact hk2 b o hc.1 hc.2 q
      · rw [upd_ne (ne_of_none q hTf)]; exact q
      · rw [upd_ne (ne_of_none q hTf)]; exact q
      · rw [upd_ne (ne_of_none q hTf), q]; simp
    have hok : HOk X.prog X.w (upd H s.heap.objs.size (.tup [.int i, x])) h2 := fun b v q => by
      by_cases hb : b = s.heap.objs.size
      · subst hb
        rw [upd_same] at q
        cases q
        exact ⟨by show 2 ≤ sizeLine; rw [sizeLine_eq]; decide, [.int i tk, y], .cons ⟨tk, rfl⟩ (.cons ru .nil), _, hsb _ _ hTe hT, rfl, _, rfl⟩
      · rw [upd_ne hb] at q
        refine (I.hok b v q).stay (fun c o hc r => ?_) (fun c r => by rw [upd_ne (ne_of_none r hTf)]; exact r) fun c ys r => by rw [upd_ne (ne_of_none r hTf)]; exact r
        rcases hc with rfl | hc
        · exact hk2 _ o (nch _ _ q).1 (nch _ _ q).2 r
        · exact hk2 c o (nch _ _ hc).1 (nch _ _ hc).2 r
    have I1 : Inv X pins σ (upd H s.heap.objs.size (.tup [.int i, x])) { s with heap := h2, toks := tk + 1 } := I.call' (s' := { s with heap := h2, toks := tk + 1 }) rfl un hok I.bare fun b hb => by
      have := hf b hb
      exact ⟨this.2.2.2.1, this.2.1, this.2.2.2.2.1, this.2.2.2.2.2⟩
    refine ⟨.ref s.heap.objs.size, _, I1, rfl, ⟨x, _, hTf, rfl, rfl, fun ys hy => by rw [D.inj rfl I hy hq]; exact hx⟩, ⟨⟨_, by simpa using he2⟩, D.keep _ _ _ (d2 _ _ st1) fun o ho' => hsb it o (Ne.symm hei) ho'⟩, fun b hb => ?_⟩
    rcases List.mem_cons.mp hb with rfl | hb
    · rw [upd_ne (Nat.ne_of_lt hel)]; exact f1.1
    · rw [List.mem_singleton.mp hb]
      obtain ⟨o, ho', _⟩ := D.obj _ _ hit'
      rw [upd_ne (Nat.ne_of_lt (Heap.lt_size ho'))]; exact f2.1
  done := by
    intro X hP hw hK hc i pins s σ H E I hf st hg
    subst hP hw hK
    obtain ⟨xs, hq, hx⟩ := hg
    obtain ⟨⟨old, he⟩, hit'⟩ := st
    obtain ⟨Pv, St, dr, d1, d2, d3⟩ := D.con rfl rfl rfl (by simpa using I.ok.hd hc) I hq
    have f := hf it (by simp)
    subst hx
    exact wpAny_pyNext_enum_endD dr he (d1 _ hit') fun h' eb => ⟨rfl, I.turned (t' := s.toks) (fun b o hb e => eb b o hb e) f.1 f.2.1 f.2.2.2.1 f.2.2.2.2.1 f.2.2.2.2.2⟩
  self := fun A i s Q E st h => by
    obtain ⟨⟨old, he⟩, _⟩ := st
    exact wpAny_pyIter_enum he h
theorem wk_enumG {K : PySem.W.Frag} {G : Gs} {l : List Dat} {H : Hp} {src : Hp → List V → Prop} {vs : List V} (h : ∀ H' G', Ext H G H' G' → src H' vs) (r : RepL K (hid H G) l vs) : Wk K (ItG src) H G (enumD l) := by
  intro H' G' e
  have h' := h H' G' e
  refine ⟨fun i d hd => ?_, vs, h', by rw [enumD_len, r.length]⟩
  obtain ⟨d', hd', rfl⟩ := enumD_get hd
  obtain ⟨v, hv, rv⟩ := r.get hd'
  refine ⟨⟨vs, v, h', hv⟩, fun x H'' hy => ?_⟩
  obtain ⟨y, T, hT, e1, e2, z⟩ := hy
  have hyv := z vs h'
  rw [hv] at hyv
  have hyv' : v = y := Option.some.inj hyv
  subst hyv'
  subst e1
  subst e2
  refine ⟨Ext.alloc hT, fun o => o.alloc hT, fun o => ?_⟩
  rw [Rep]
  refine ⟨T, [.int (i : Nat), v], rfl, SqT.of (hid_of (o.free hT) upd_same), RepL.cons (by rw [Rep]) (RepL.cons ((rv.same e.hid).same (Ext.alloc hT).hid) RepL.nil)⟩
theorem src_list {P : Program} {w : World} {K : PySem.W.Frag} {a it : Addr} (hai : a ≠ it) : SrcOk P w K (fun H xs => SqL K H a xs) it [it, a] (fun i h => h.IsListIter it a i) where
  inj := fun hK I h1 h2 => by subst hK; exact I.list_inj h1 h2
  obj := fun i h hi => by
    obtain ⟨o, ho, c, d⟩ := hi
    exact ⟨o, ho, fun v z => by rw [d] at z; cases z⟩
  keep := fun i h h' hi k => by
    obtain ⟨o, ho, r⟩ := hi
    exact ⟨o, k o ho, r⟩
  con := fun {X pins σ H s xs} hP hw hK hh I hq => by
    subst hP hw hK
    obtain ⟨its, rv, p, hz⟩ := I.list hq
    have hl : its.toArray.size = xs.length := by simp [rv.length]
    refine ⟨_, _, hl ▸ Draws.list hh it a hai its.toArray, fun i hi => ⟨hi, p.isList⟩, fun i h st => st.1, fun i v x hv hx => ?_⟩
    obtain ⟨u, hu, ru⟩ := rv.get hx
    have : its.toArray[i]? = some u := by simpa using hu
    rw [this] at hv
    cases hv
    exact ru
noncomputable def sgnV (x : Str) : List V := x.cps.toList.map fun c => V.str ⟨#[c]⟩
noncomputable def sgnD (x : Str) : List Dat := x.cps.toList.map fun c => Dat.str ⟨#[c]⟩
theorem src_str {P : Program} {w : World} {K : PySem.W.Frag} {it : Addr} {x : Str} {t : Tok} : SrcOk P w K (fun H xs => xs = sgnV x) it [it] (fun i h => h.IsStrIter it (strIterType x) x t i) where
  inj := fun hK I h1 h2 => by rw [h1, h2]
  obj := fun i h hi => by
    obtain ⟨o, ho, c, d⟩ := hi
    exact ⟨o, ho, fun v z => by rw [d] at z; cases z⟩
  keep := fun i h h' hi k => by
    obtain ⟨o, ho, r⟩ := hi
    exact ⟨o, k o ho, r⟩
  con := fun {X pins σ H s xs} hP hw hK hh I hq => by
    subst hP hw hK
    subst hq
    have hl : x.cps.size = (sgnV x).length := by simp [sgnV]
    have hv : ∀ (i : Nat) (v : Value) (z : V), (∃ c u, x.cps[i]? = some c ∧ v = Value.str ⟨#[c]⟩ u) → (sgnV x)[i]? = some z → RelV z v := fun i v z hv hz => by
      obtain ⟨c, u, hc, rfl⟩ := hv
      have : (sgnV x)[i]? = some (V.str ⟨#[c]⟩) := by
        unfold sgnV
        rw [List.getElem?_map, Array.getElem?_toList, hc]
        rfl
      rw [this] at hz
      cases hz
      exact ⟨u, rfl⟩
    cases ha : x.cps.all (· < 128)
    · refine ⟨_, _, hl ▸ Draws.strWide hh it x t, fun i hi => by simpa [strIterType, ha] using hi, fun i h st => by simpa [strIterType, ha] using st, hv⟩
    · refine ⟨_, _, hl ▸ Draws.strAscii hh it x t, fun i hi => by simpa [strIterType, ha] using hi, fun i h st => by simpa [strIterType, ha] using st, hv⟩
theorem repL_sgn {K : PySem.W.Frag} {H : Hp} : ∀ (cs : List Nat), RepL K H (cs.map fun c => Dat.str ⟨#[c]⟩) (cs.map fun c => V.str ⟨#[c]⟩)
  | [] => RepL.nil
  | c :: cs => RepL.cons (by rw [Rep]) (repL_sgn cs)
section
variable {X : Cx} {ρ : Rho} {G : Gs} {a : Expr} {l : List Dat} {pos p1 : Pos} {elts : List Expr} {x1 : Nat} {tpos : Pos}
theorem wi_enumL {Q : List Dat → Gs → Prop} (hm : X.mg "enumerate" = none) (ha : PX X ρ G a (.lst l)) (q : Q (enumD l) G) (hg : Gl X "enumerate" := by rfl) (he : starEach [a] X.env = (false, eval a X.env) :: starEach [] X.env := by rfl) : WI X ρ G (.Tuple elts x1 tpos) (.Call (.Name "enumerate" p1) [a] [] pos) Q := by
  intro pins s σ H I S
  refine wpAny_Call_Name_kw (ld_blt I hg hm (by decide +kernel : bootBuiltins "enumerate" = some (.type "enumerate")) ?_ (by decide) (by decide))
  refine PyProof.Rows.callWith_type1 (PyProof.Rows.spliced_more (thn (ha pins s σ H I S) fun u s1 ⟨x, H1, I1, r1, d, G1, e1, o1, rx, q1, q2⟩ => PyProof.Rows.spliced_none ?_) he) he rfl
  subst q1; subst q2
  rw [Rep] at rx
  obtain ⟨p, vs, rfl, h1, h2⟩ := rx
  cases r1
  obtain ⟨its, rv, pt, hz⟩ := I1.list (SqL.of (hid_le _ _ h1))
  refine call_enumerate_list pt.isList fun h' hen hti hsz hk => ?_
  refine wpAny_pyIter_enum (s := { s1 with heap := h' }) hen ?_
  have hp : p < s1.heap.objs.size := by obtain ⟨o, ho, _⟩ := pt.isList; exact Heap.lt_size ho
  refine ⟨s1.heap.objs.size + 1, [s1.heap.objs.size + 1, s1.heap.objs.size], _, _, H1, rfl, I1.kept (t' := s1.toks) hk, turn_enumG _ _ (Nat.ne_of_gt (Nat.lt_succ_self _)) ?_ (src_list (Nat.ne_of_lt hp)), ⟨⟨_, by simpa using hen⟩, hti⟩, fun b hb => ?_, enumD l, G1, e1, o1, wk_enumG (vs := vs) (fun H' G' e => SqL.of (hid_le _ _ (e.hid _ _ h1))) h2, q⟩
  · simp only [List.mem_cons, List.not_mem_nil, or_false, not_or]
    exact ⟨Nat.succ_ne_self _, Nat.ne_of_gt (Nat.lt_succ_of_lt hp)⟩
  · rcases List.mem_cons.mp hb with rfl | hb
    · exact I1.fpOk (Nat.le_succ _) (I1.hok.fresh (Nat.le_succ _))
    · rw [List.mem_singleton.mp hb]
      exact I1.fpOk (Nat.le_refl _) (I1.hok.fresh (Nat.le_refl _))
theorem wi_enumS {x : Str} {Q : List Dat → Gs → Prop} (hm : X.mg "enumerate" = none) (ha : PX X ρ G a (.str x)) (q : Q (enumD (sgnD x)) G) (hg : Gl X "enumerate" := by rfl) (he : starEach [a] X.env = (false, eval a X.env) :: starEach [] X.env := by rfl) : WI X ρ G (.Tuple elts x1 tpos) (.Call (.Name "enumerate" p1) [a] [] pos) Q := by
  intro pins s σ H I S
  refine wpAny_Call_Name_kw (ld_blt I hg hm (by decide +kernel : bootBuiltins "enumerate" = some (.type "enumerate")) ?_ (by decide) (by decide))
  refine PyProof.Rows.callWith_type1 (PyProof.Rows.spliced_more (thn (ha pins s σ H I S) fun u s1 ⟨y, H1, I1, r1, d, G1, e1, o1, rx, q1, q2⟩ => PyProof.Rows.spliced_none ?_) he) he rfl
  subst q1; subst q2
  cases (show y = V.str x from rx)
  obtain ⟨t, rfl⟩ := r1
  refine call_enumerate_str fun h' hen hti hsz hk => ?_
  refine wpAny_pyIter_enum (s := { s1 with heap := h' }) hen ?_
  refine ⟨s1.heap.objs.size + 1, [s1.heap.objs.size + 1, s1.heap.objs.size], _, _, H1, rfl, I1.kept (t' := s1.toks) hk, turn_enumG _ _ (Nat.ne_of_gt (Nat.lt_succ_self _)) ?_ (src_str (x := x) (t := t)), ⟨⟨_, by simpa using hen⟩, hti⟩, fun b hb => ?_, enumD (sgnD x), G1, e1, o1, wk_enumG (vs := sgnV x) (fun H' G' e => rfl) (repL_sgn _), q⟩
  · simp only [List.mem_cons, List.not_mem_nil, or_false]
    exact Nat.succ_ne_self _
  · rcases List.mem_cons.mp hb with rfl | hb
    · exact I1.fpOk (Nat.le_succ _) (I1.hok.fresh (Nat.le_succ _))
    · rw [List.mem_singleton.mp hb]
      exact I1.fpOk (Nat.le_refl _) (I1.hok.fresh (Nat.le_refl _))
end
end TF
namespace TF
open PySem PySem.Spec L2
open PyProof.Rows hiding St RelV
section
variable {X : Cx} {ρ : Rho} {G : Gs} {a b c : Expr} {d : Dat} {pos : Pos} {x y : Str}
theorem px_ifexp {p : Bool} (hc : PXT X ρ G c p) (ha : p = true → PX X ρ G a d) (hb : p = false → PX X ρ G b d) : PX X ρ G (.IfExp c a b pos) d := by
  intro pins s σ H I S
  refine wpAny_IfExp (thn (hc pins s σ H I S) fun q s1 ⟨H1, I1, _, e1, o1, q1, q2⟩ => ?_)
  subst q1; subst q2
  cases q with
  | true => exact thn (ha rfl pins s1 σ H1 I1 (S.ext e1 o1)) fun _ _ z => EP.mono z fun _ _ y => Po.trans e1 y
  | false => exact thn (hb rfl pins s1 σ H1 I1 (S.ext e1 o1)) fun _ _ z => EP.mono z fun _ _ y => Po.trans e1 y
theorem pxc_eqS (ha : PX X ρ G a (.str x)) (hb : PX X ρ G b (.str y)) : PXC X ρ G .Eq a b (.bl (x == y)) :=
  pxc_op op_eq ha hb fun H u v Q o hx hy k => by
    cases (show u = V.str x from hx); cases (show v = V.str y from hy)
    exact ⟨rfl, by rw [dec_str]; exact k _ _ (po1' o rfl)⟩
theorem pxc_neS (ha : PX X ρ G a (.str x)) (hb : PX X ρ G b (.str y)) : PXC X ρ G .NotEq a b (.bl (!(x == y))) :=
  pxc_op op_ne ha hb fun H u v Q o hx hy k => by
    cases (show u = V.str x from hx); cases (show v = V.str y from hy)
    exact ⟨rfl, by rw [dec_str]; exact k _ _ (po1' o rfl)⟩
theorem px_addS (ha : PX X ρ G a (.str x)) (hb : PX X ρ G b (.str y)) (hz : x.length + y.length ≤ sizeLine) : PX X ρ G (.BinOp a .Add b pos) (.str (x ++ y)) :=
  px_op op_add_str ha hb fun H u v Q o hx hy k => ⟨x, y, hx, hy, hz, k _ _ (po1' o rfl)⟩
theorem px_lenS {p : Pos} (hm : X.mg "len" = none) (ha : PX X ρ G a (.str x)) (hz : x.length ≤ sizeLine) (hg : Gl X "len" := by rfl) (he : starEach [a] X.env = (false, eval a X.env) :: starEach [] X.env := by rfl) : PX X ρ G (.Call (.Name "len" p) [a] [] pos) (.int x.length) :=
  px_call1 call_len_str hg hm PySem.boot_len ha (fun H v Q o r k => ⟨x, by rw [show v = V.str x from r], hz, k _ _ (po1' o rfl)⟩) (he := he)
theorem strs_of {K : PySem.W.Frag} {H : Hp} : ∀ {ss : List Str} {vs : List V}, RepL K H (ss.map .str) vs → vs = ss.map .str
  | [], _, h => h
  | s :: ss, _, h => by
    obtain ⟨v, r, rfl, h1, h2⟩ := h
    rw [strs_of h2, show v = V.str s from h1]
    rfl
theorem toks_of : ∀ {ss : List Str} {us : List Value}, Vals (ss.map .str) us → ∃ l : List (Str × Tok), us = strValues l ∧ l.map (·.1) = ss
  | [], _, .nil => ⟨[], rfl, rfl⟩
  | s :: ss, _, .cons h1 h2 => by
    obtain ⟨t, rfl⟩ := h1
    obtain ⟨l, rfl, rfl⟩ := toks_of h2
    exact ⟨(s, t) :: l, rfl, rfl⟩
theorem vals_toks : ∀ (l : List (Str × Tok)), Vals ((l.map (·.1)).map V.str) (strValues l)
  | [] => .nil
  | p :: l => .cons ⟨p.2, rfl⟩ (vals_toks l)
theorem px_join {ss : List Str} {apos cpos : Pos} (ha : PX X ρ G a (.str x)) (hb : PX X ρ G b (.lst (ss.map .str))) (hok : JoinOk x ss = true)
    (hbase : attributeBase a "join" X.env (eval a X.env) = eval a X.env := by rfl)
    (hfew : ((backTo cpos (starEach [b] X.env)).all (fun x => !x.1) && (backToKw cpos (keywordEach [] X.env)).all (fun x => x.1.isSome) && decide (([b] : List Expr).length + ([] : List Keyword).length + (if ([] : List Keyword).isEmpty then 0 else 1) < 30)) = true := by rfl)
    (hline : (apos.endLine == cpos.line) = true := by rfl) (hs : starEach [b] X.env = (false, eval b X.env) :: starEach [] X.env := by rfl) (hpl : (backTo cpos (starEach [] X.env)).any (·.1) = false := by rfl) :
    PX X ρ G (.Call (.Attribute a "join" apos) [b] [] cpos) (.str (Txt.join x ss)) := by
  intro pins s σ H I S
  refine wpAny_Call_method_late hbase hfew hline rfl (thn (ha pins s σ H I S) fun u s1 ⟨v, H1, I1, rx, _, G1, e1, o1, r1, q1, q1'⟩ => ?_)
  subst q1; subst q1'
  cases (show v = V.str x from r1)
  obtain ⟨t, rfl⟩ := rx
  refine ⟨"str", "str.join", PySem.F.plainAttrs_str, PySem.F.slot_str_join, PySem.F.type_str_join, typeIs_str _ _ _, (fun _ e => nomatch e), ?_⟩
  have hA := (pxs_cons hb pxs_nil hs : PXs X ρ G1 [b] [_]) cpos pins s1 σ H1 I1 (S.ext e1 o1)
  rw [hs] at hA ⊢
  refine Calls.callWith_builtin (by show (false || (backTo cpos (starEach [] X.env)).any (·.1)) = false; rw [hpl]; rfl) (Calls.evalArgs_plain ?_)
  refine thn hA fun us s2 ⟨vs, H2, I2, rv, _, G2, e2, o2, r2, q2, q2'⟩ => ?_
  subst q2; subst q2'
  rw [RepL] at r2
  obtain ⟨y, r, rfl, r2, r3⟩ := r2
  rw [RepL] at r3
  subst r3
  obtain ⟨u2, rfl, ry⟩ := rv.one
  rw [Rep] at r2
  obtain ⟨p, vs, rfl, h1, h2⟩ := r2
  cases ry
  have hv := strs_of h2
  subst hv
  obtain ⟨its, rv', pt, hz⟩ := I2.list (SqL.of (hid_le _ _ h1))
  obtain ⟨l, rfl, rfl⟩ := toks_of rv'
  exact SC.join pt.isList rfl hok fun t' k => ⟨.str _, H2, I2.tok _, ⟨_, rfl⟩, .str _, _, e1.trans e2, o2, rfl, rfl, rfl⟩
section
variable {prog : Program} {w : World} {A : Around} {E : Value → Shared → Prop} {s : Shared} {x : Str} {t : Tok} {Q : Value → Shared → Prop}
open Builtin Builtin.Str in
theorem split_raw {y : Str} {u : Tok} (hy : (y.length == 0) = false)
    (hq : ∀ l k, l.map (·.1) = Txt.split x y → Q (.ref s.heap.objs.size) { s with heap := s.heap.push { cls := .type "list", data := .seq (strValues l).toArray }, toks := k })
    (hsz : x.length ≤ sizeLine) (hsz2 : (partsBetween x (occurrences x y 0 x.length (x.length + 1)) y.length).length ≤ sizeLine) :
    wpAny (model prog w) A (call (.builtin "str.split") [.str x t, .str y u]) Q E s := by
  cases h1 : (decide (x.length < y.length) || decide (strKind x < strKind y))
  · cases hf : (occurrences x y 0 x.length (x.length + 1)).isEmpty
    · refine call_meets F.slot_str_split (typeIs_str _ _ _) F.entry_str_split (F.args_str_split_2 _ _) (meets_str_split_sep x y t u h1 hy hf hsz hsz2) ?_
      show wants Q E _ { s with toks := _, heap := s.heap.push { cls := .type "list", data := .seq (strsFrom s.toks (partsBetween x (occurrences x y 0 x.length (x.length + 1)) y.length)).toArray } }
      rw [strsFrom_eq]
      exact hq (numbered s.toks _) _ ((numbered_texts _ _).trans ((if_neg (ne_true_of_eq_false h1)).trans (if_neg (ne_true_of_eq_false hf))).symm)
    · exact call_meets F.slot_str_split (typeIs_str _ _ _) F.entry_str_split (F.args_str_split_2 _ _) (meets_str_split_not_found x y t u h1 hy hf)
        (hq [(x, t)] s.toks ((if_neg (ne_true_of_eq_false h1)).trans (if_pos hf)).symm)
  · exact call_meets F.slot_str_split (typeIs_str _ _ _) F.entry_str_split (F.args_str_split_2 _ _) (meets_str_split_cannot_occur x y t u h1)
      (hq [(x, t)] s.toks (if_pos h1).symm)
end
open Builtin Builtin.Str in
theorem px_split {apos cpos : Pos} (ha : PX X ρ G a (.str x)) (hb : PX X ρ G b (.str y)) (hy : (y.length == 0) = false) (hz : x.length ≤ sizeLine) (hz2 : (partsBetween x (occurrences x y 0 x.length (x.length + 1)) y.length).length ≤ sizeLine)
    (hbase : attributeBase a "split" X.env (eval a X.env) = eval a X.env := by rfl)
    (hfew : ((backTo cpos (starEach [b] X.env)).all (fun x => !x.1) && (backToKw cpos (keywordEach [] X.env)).all (fun x => x.1.isSome) && decide (([b] : List Expr).length + ([] : List Keyword).length + (if ([] : List Keyword).isEmpty then 0 else 1) < 30)) = true := by rfl)
    (hline : (apos.endLine == cpos.line) = true := by rfl) (hs : starEach [b] X.env = (false, eval b X.env) :: starEach [] X.env := by rfl) (hpl : (backTo cpos (starEach [] X.env)).any (·.1) = false := by rfl) :
    PX X ρ G (.Call (.Attribute a "split" apos) [b] [] cpos) (.lst ((Txt.split x y).map .str)) := by
  intro pins s σ H I S
  refine wpAny_Call_method_late hbase hfew hline rfl (thn (ha pins s σ H I S) fun u s1 ⟨v, H1, I1, rx, _, G1, e1, o1, r1, q1, q1'⟩ => ?_)
  subst q1; subst q1'
  cases (show v = V.str x from r1)
  obtain ⟨t, rfl⟩ := rx
  refine ⟨"str", "str.split", PySem.F.plainAttrs_str, PySem.F.slot_str_split, PySem.F.type_str_split, typeIs_str _ _ _, (fun _ e => nomatch e), ?_⟩
  have hA := (pxs_cons hb pxs_nil hs : PXs X ρ G1 [b] [_]) cpos pins s1 σ H1 I1 (S.ext e1 o1)
  rw [hs] at hA ⊢
  refine Calls.callWith_builtin (by show (false || (backTo cpos (starEach [] X.env)).any (·.1)) = false; rw [hpl]; rfl) (Calls.evalArgs_plain ?_)
  refine thn hA fun us s2 ⟨vs, H2, I2, rv, _, G2, e2, o2, r2, q2, q2'⟩ => ?_
  subst q2; subst q2'
  rw [RepL] at r2
  obtain ⟨y', r, rfl, r2, r3⟩ := r2
  rw [RepL] at r3
  subst r3
  obtain ⟨u2, rfl, ry⟩ := rv.one
  cases (show y' = V.str y from r2)
  obtain ⟨t2, rfl⟩ := ry
  have hlen : (Txt.split x y).length ≤ sizeLine := by
    unfold Txt.split
    split
    · show 1 ≤ sizeLine; rw [sizeLine_eq]; decide
    · split
      · show 1 ≤ sizeLine; rw [sizeLine_eq]; decide
      · exact hz2
  refine split_raw hy (fun l k hl => ?_) hz hz2
  have hf := I2.hok.fresh (Nat.le_refl s2.heap.objs.size)
  refine ⟨.ref s2.heap.objs.size, _, I2.laid (t' := k) (fun b o e => Heap.get?_push_of_some _ e) (Nat.le_refl _) (show ObjOk X.prog X.w _ _ _ (.lst ((l.map (·.1)).map V.str)) from ⟨by rw [List.length_map, hl]; exact hlen, strValues l, _, vals_toks l, Heap.get?_push_size _ rfl⟩), rfl, ?_⟩
  refine Po.trans (e1.trans e2) (new_lst o2 hf ?_)
  rw [hl]
  have : ∀ ss : List Str, RepL X.K (hid H2 G2) (ss.map .str) (ss.map V.str) := fun ss => by
    induction ss with
    | nil => exact RepL.nil
    | cons z zs ih => exact RepL.cons (by rw [Rep]) ih
  exact this _
end
end TF
namespace TF
open PySem PySem.Spec L2
open PyProof.Rows hiding St RelV
noncomputable def SameX (H H' : Hp) : Prop := ∀ b o, H b = some o → H' b = some o ∨ ∃ φ, o = HO.ext φ
theorem sqT_x {K : PySem.W.Frag} {H H' : Hp} {a : Addr} {xs : List V} (e : SameX H H') (h : SqT K H a xs) : SqT K H' a xs := by
  rcases h with (h | ⟨o, h⟩) | h
  · rcases e _ _ h with h | ⟨φ, h⟩
    · exact .inl (.inl h)
    · cases h
  · rcases e _ _ h with h | ⟨φ, h⟩
    · exact .inl (.inr ⟨o, h⟩)
    · cases h
  · exact .inr h
theorem sqL_x {K : PySem.W.Frag} {H H' : Hp} {a : Addr} {xs : List V} (e : SameX H H') (h : SqL K H a xs) : SqL K H' a xs := by
  rcases h with (h | ⟨o, h⟩) | h
  · rcases e _ _ h with h | ⟨φ, h⟩
    · exact .inl (.inl h)
    · cases h
  · rcases e _ _ h with h | ⟨φ, h⟩
    · exact .inl (.inr ⟨o, h⟩)
    · cases h
  · exact .inr h
mutual
theorem Rep.x {K : PySem.W.Frag} {H H' : Hp} (e : SameX H H') : ∀ {d : Dat} {v : V}, Rep K H d v → Rep K H' d v
  | .non, _, h => by simpa [Rep] using h
  | .bl _, _, h => by simpa [Rep] using h
  | .int _, _, h => by simpa [Rep] using h
  | .str _, _, h => by simpa [Rep] using h
  | .fn _, _, h => by simpa [Rep] using h
  | .scr _, _, h => by
    obtain ⟨a, h1, h2⟩ := (by simpa [Rep] using h : ∃ a, _ = V.ref a ∧ SqL K H a _)
    rw [Rep]; exact ⟨a, h1, sqL_x e h2⟩
  | .tup _, _, h => by
    rw [Rep] at h ⊢
    obtain ⟨a, vs, h1, h2, h3⟩ := h
    exact ⟨a, vs, h1, sqT_x e h2, RepL.x e h3⟩
  | .lst _, _, h => by
    rw [Rep] at h ⊢
    obtain ⟨a, vs, h1, h2, h3⟩ := h
    refine ⟨a, vs, h1, ?_, RepL.x e h3⟩
    rcases e _ _ h2 with h | ⟨φ, h⟩
    · exact h
    · cases h
theorem RepL.x {K : PySem.W.Frag} {H H' : Hp} (e : SameX H H') : ∀ {ds : List Dat} {vs : List V}, RepL K H ds vs → RepL K H' ds vs
  | [], _, h => by rw [RepL] at h ⊢; exact h
  | _ :: _, _, h => by
    rw [RepL] at h ⊢
    obtain ⟨v, r, h1, h2, h3⟩ := h
    exact ⟨v, r, h1, Rep.x e h2, RepL.x e h3⟩
end
theorem DRep.x {K : PySem.W.Frag} {H H' : Hp} (e : SameX H H') : ∀ {kvs : List (Dat × Dat)} {xs : List (Dat × Addr × Value)}, DRep K H kvs xs → DRep K H' kvs xs
  | [], _, h => h
  | _ :: _, _, ⟨a, u, xs', h1, h2, h3, ⟨v, h4, h5⟩, h6⟩ => ⟨a, u, xs', h1, h2, h3.x e, ⟨v, h4, h5.x e⟩, DRep.x e h6⟩
theorem OwnOk.x {K : PySem.W.Frag} {H H' : Hp} {G G' : Gs} {a : Addr} {o : OD} (h : OwnOk K H G a o) (e : SameX (hid H G) (hid H' G')) (q : H' a = H a) : OwnOk K H' G' a o := by
  cases o with
  | lst l =>
    obtain ⟨vs, h1, h2⟩ := h
    exact ⟨vs, q.trans h1, h2.x e⟩
  | dct kvs =>
    obtain ⟨xs, h1, h2⟩ := h
    exact ⟨xs, q.trans h1, h2.x e⟩
section
variable {prog : Program} {w : World} {A : Around} {E : Value → Shared → Prop} {s : Shared} {it d : Addr} {od : Obj} {es : Array DictEntry} {i ep : Nat}
theorem key_item {Q : Option Value → Shared → Prop} (hit : s.heap.IsKeyIter it d i es.size ep) (hod : s.heap.get? d = some od) (hdd : od.data = .dict es ep) (hlt' : i < es.size)
    (hQ : ∀ h', h'.IsKeyIter it d (i + 1) es.size ep → Heap.SameBut it s.heap h' → Q (some es[i].key) { s with heap := h' }) : wpAny (model prog w) A (pyNext (.ref it)) Q E s := by
  obtain ⟨o, ho, hc, hd⟩ := id hit
  unfold pyNext
  refine wpAny_bind (wpAny_attempt (wpAny_callSpecial?_slot (name := Str.ofString "__next__") hit.typeIs F.slot_dict_keyiterator_next (wpAny_call_entry F.slot_dict_keyiterator_next hit.typeIs F.entry_dict_keyiterator_next ?_ (F.args_dict_keyiterator_next_1 _))))
  refine wpAny_bind (wpAny_pure (wpAny_bind (wpAny_bind ?_)))
  refine wpAny_bind (wpAny_typeNameOfWhole_keyiter hit.typeIs (wpAny_pure (wpAny_bind (wpAny_fieldsOf ho hd ?_))))
  have hown : Builtin.Dict_items.ownsTuple "dict_keyiterator" = false := by decide
  simp only [hown, Bool.false_eq_true, if_false]
  show wpAny _ _ (if (Value.ref d == Value.none) = true then _ else _) _ _ s
  rw [if_neg (show ¬ ((Value.ref d == Value.none) = true) from Bool.false_ne_true)]
  refine wpAny_bind (wpAny_pure (wpAny_bind (wpAny_dictEntries hod hdd ?_)))
  rw [if_neg (by simp)]
  refine wpAny_bind (wpAny_pure (wpAny_bind (wpAny_dictEpoch hod hdd ?_)))
  rw [if_neg (by simp)]
  refine wpAny_pure ?_
  simp only [show ¬ ((i : Int) < 0) from by omega, if_false, Int.toNat_natCast, Array.getElem?_eq_getElem hlt']
  refine wpAny_bind ?_
  refine wpAny_bind (wpAny_typeNameOfWhole_keyiter hit.typeIs (wpAny_pure (wpAny_bind (wpAny_isOneOf_keyiter hit.typeIs ?_))))
  show wpAny _ _ (setField (.ref it) 1 (rawInt ((i : Int) + 1)) >>= _) _ _ s
  refine wpAny_bind (wpAny_setField ho hd (by simp) ?_)
  have hit' : (s.heap.update it (Obj.mapFields (·.setIfInBounds 1 (rawInt ((i : Int) + 1))))).IsKeyIter it d (i + 1) es.size ep :=
    ⟨_, Heap.get?_update_self _ ho (Obj.isFreed_of_fields (Obj.data_mapFields hd _)), (Obj.cls_mapFields ..).trans hc, by rw [Obj.data_mapFields hd]; simp [rawInt]⟩
  refine wpAny_bind (wpAny_holding ?_)
  refine wpAny_bind (wpAny_isOneOf_keyiter (s := { s with heap := s.heap.update it (Obj.mapFields (·.setIfInBounds 1 (rawInt ((i : Int) + 1)))) }) hit'.typeIs ?_)
  show wpAny _ _ (pure es[i].key) _ _ _
  exact wpAny_pure (wpAny_pure ⟨_, rfl, wpAny_pure (hQ _ hit' (Heap.SameBut.update ..))⟩)
theorem key_end {Q : Option Value → Shared → Prop} (hh : A.handled = none) (hit : s.heap.IsKeyIter it d es.size es.size ep) (hod : s.heap.get? d = some od) (hdd : od.data = .dict es ep)
    (hQ : ∀ h', Heap.ExtBut it s.heap h' → Q none { s with heap := h' }) : wpAny (model prog w) A (pyNext (.ref it)) Q E s := by
  obtain ⟨o, ho, hc, hd⟩ := id hit
  unfold pyNext
  refine wpAny_bind (wpAny_attempt (wpAny_callSpecial?_slot (name := Str.ofString "__next__") hit.typeIs F.slot_dict_keyiterator_next (wpAny_call_entry F.slot_dict_keyiterator_next hit.typeIs F.entry_dict_keyiterator_next ?_ (F.args_dict_keyiterator_next_1 _))))
  refine wpAny_bind (wpAny_pure (wpAny_bind (wpAny_bind ?_)))
  refine wpAny_bind (wpAny_typeNameOfWhole_keyiter hit.typeIs (wpAny_pure (wpAny_bind (wpAny_fieldsOf ho hd ?_))))
  have hown : Builtin.Dict_items.ownsTuple "dict_keyiterator" = false := by decide
  simp only [hown, Bool.false_eq_true, if_false]
  show wpAny _ _ (if (Value.ref d == Value.none) = true then _ else _) _ _ s
  rw [if_neg (show ¬ ((Value.ref d == Value.none) = true) from Bool.false_ne_true)]
  refine wpAny_bind (wpAny_pure (wpAny_bind (wpAny_dictEntries hod hdd ?_)))
  rw [if_neg (by simp)]
  refine wpAny_bind (wpAny_pure (wpAny_bind (wpAny_dictEpoch hod hdd ?_)))
  rw [if_neg (by simp)]
  refine wpAny_pure ?_
  simp only [show ¬ ((es.size : Int) < 0) from by omega, if_false, Int.toNat_natCast, Array.getElem?_eq_none (Nat.le_refl es.size)]
  refine wpAny_bind ?_
  refine wpAny_bind (wpAny_typeNameOfWhole_keyiter hit.typeIs (wpAny_pure ?_))
  show wpAny _ _ (setField (.ref it) 0 .none >>= _) _ _ s
  refine wpAny_bind (wpAny_setField ho hd (by simp) ?_)
  show wpAny _ _ (newExc (.type "StopIteration") [] >>= _) _ _ _
  refine wpAny_bind ?_
  simp only [newExc, newTuple]
  refine wpAny_bind (wpAny_newObj_type ?_ (by size_fits))
  refine wpAny_bind (m := firstArgMember _ _) (wpAny_of_eq (a := Value.none) (by first | rfl | (simp only [firstArgMember]; rfl)) ?_)
  refine wpAny_newObj_type ?_ (by size_fits)
  simp only [raiseNew]
  refine wpAny_bind (wpAny_handled ?_)
  rw [show A.in1.handled = none from hh]
  refine wpAny_bind (wpAny_pure (wpAny_throw ?_))
  refine wpAny_bind (wpAny_isInstance (T := "StopIteration") (b := true) ⟨_, Heap.get?_push_size _ rfl, rfl⟩ isSubtype_stop ?_)
  exact wpAny_pure (hQ _ (((Heap.SameBut.update ..).extBut.push _).push _))
theorem iter_keys {Q : Value → Shared → Prop} (hd : (d == sysModules) = false) (hod : s.heap.get? d = some od) (hx : od.ExactDict) (hdd : od.data = .dict es ep)
    (hQ : Q (.ref s.heap.objs.size) { s with heap := s.heap.push { cls := .type "dict_keyiterator", data := .fields #[.ref d, .int 0 0, .int es.size 0, .int ep 0] } }) : wpAny (model prog w) A (pyIter (.ref d)) Q E s := by
  have hT : s.TypeIs (.ref d) "dict" := ⟨od, hod, hx.1⟩
  refine wpAny_pyIter_slot hT F.slot_dict_iter (wpAny_call_entry F.slot_dict_iter hT F.entry_dict_iter ?_ (F.args_dict_iter_1 _))
  unfold Builtin.«dict.__iter__»
  refine wpAny_bind ?_
  unfold Builtin.Dict.dictSlotNone
  refine wpAny_bind (wpAny_notOrdered_dict hT ?_)
  show wpAny _ _ (pure (Value.ref d)) _ _ s
  refine wpAny_pure ?_
  show wpAny _ _ (Builtin.Dict.showsAll d >>= _) _ _ s
  unfold Builtin.Dict.showsAll
  rw [if_neg (by rw [hd]; exact Bool.false_ne_true)]
  refine wpAny_bind (wpAny_pure (wpAny_bind (wpAny_dictEntries hod hdd (wpAny_bind (wpAny_dictEpoch hod hdd ?_)))))
  refine wpAny_bind (wpAny_newObj_type (wpAny_pure ⟨_, rfl, "dict_keyiterator", _, ⟨_, Heap.get?_push_size _ rfl, rfl⟩, F.slot_dict_keyiterator_next.lookup, ?_⟩))
  simpa [rawInt] using hQ
end
noncomputable def exO (p : Addr) (o : Obj) : HO := .ext fun h => h.get? p = some o
theorem exO_ok {P : Program} {w : World} {H : Hp} {h : Heap} {p : Addr} {o : Obj} (e : h.get? p = some o) : ObjOk P w H h p (exO p o) := ⟨e, ⟨o, e⟩, fun _ _ q k => k _ q⟩
noncomputable def ItK (p : Addr) (o : Obj) (es : Array DictEntry) : It :=
  ⟨fun i H => H p = some (exO p o) ∧ i < es.size, fun i H x H' => H' = H ∧ ∃ (hi : i < es.size) (a : Addr), es[i].key = .ref a ∧ x = .ref a, fun i H => H p = some (exO p o) ∧ es.size = i⟩
theorem turn_keys {P : Program} {w : World} {K : PySem.W.Frag} {tg : Expr} {p it : Addr} {o : Obj} {es : Array DictEntry} {ep : Nat} (hdd : o.data = .dict es ep) (hk : ∀ (i : Nat) (hi : i < es.size), ∃ a, es[i].key = .ref a) : Turn P w K tg (ItK p o es) [it] it (fun i h => h.IsKeyIter it p i es.size ep) where
  mem := by simp
  obj := fun i h st b hb => by
    have e : b = it := by simpa using hb
    subst e
    obtain ⟨o, e, c, d⟩ := st
    exact ⟨o, e, fun v z => by rw [d] at z; cases z⟩
  keep := fun i h h' st k => st.at fun o e => k it (by simp) o e
  item := by
    intro X hP hw hK hc i pins s σ H E I hf st hg
    subst hP hw hK
    obtain ⟨hp, hi⟩ := hg
    obtain ⟨e, _, _⟩ := (show ObjOk X.prog X.w H s.heap p (exO p o) from I.hok p _ hp)
    obtain ⟨f0, f1, f2, f3, f4, f5⟩ := hf it (by simp)
    obtain ⟨a, ha⟩ := hk i hi
    refine key_item st e hdd hi fun h' st' sb => ?_
    have I1 : Inv X pins σ H { s with heap := h' } := I.turned (t' := s.toks) (fun b o hb e => (sb.2 b hb).trans e) f0 f1 f3 f4 f5
    obtain ⟨o, e, c, d⟩ := id st'
    exact ⟨_, rfl, go_of (s := { s with heap := h' }) e c d (by decide) ⟨.ref a, H, I1, ha, ⟨rfl, hi, a, ha, rfl⟩, st', fun b hb => (hf b hb).1⟩⟩
  done := by
    intro X hP hw hK hc i pins s σ H E I hf st hg
    subst hP hw hK
    obtain ⟨hp, rfl⟩ := hg
    obtain ⟨e, _, _⟩ := (show ObjOk X.prog X.w H s.heap p (exO p o) from I.hok p _ hp)
    obtain ⟨f0, f1, f2, f3, f4, f5⟩ := hf it (by simp)
    exact key_end (I.ok.hd hc) st e hdd fun h' eb => ⟨rfl, I.turned (t' := s.toks) (fun b o hb e => eb b o hb e) f0 f1 f3 f4 f5⟩
  self := fun _ _ _ _ _ st h => wpAny_pyIter_keyiter st h
section
variable {X : Cx} {ρ : Rho} {G : Gs} {elt target iter : Expr} {scope : Scope} {cpos : Pos} {Nc : List Str} {caps : List (Option Nat)} {f : Dat → Rho → Option Rho} {p : Addr} {kvs : List (Dat × Dat)}
theorem drep_keys {K : PySem.W.Frag} {H : Hp} : ∀ {kvs : List (Dat × Dat)} {xs : List (Dat × Addr × Value)}, DRep K H kvs xs → kvs.map (·.1) = xs.map (·.1)
  | [], _, h => by rw [DRep] at h; subst h; rfl
  | (k, d) :: r, _, h => by
    rw [DRep] at h
    obtain ⟨a, u, xs', rfl, _, _, _, h6⟩ := h
    rw [List.map_cons, List.map_cons, drep_keys h6]
theorem px_compD (g : Dat → Dat) (Sc : CompSc X scope Nc caps) (hcalm : X.calm = true) (ha : PX X ρ G iter (.fn p)) (hG : G p = some (.dct kvs))
    (hg : ∀ C s' H' fp, PGD (compCx X Nc scope C s' H' fp) target f) (hle : ∀ d ρ', f d (pick caps ρ) = some ρ' → ρ'.length = (pick caps ρ).length ∧ ∀ (j : Nat) e, (pick caps ρ)[j]? = some (some e) → ρ'[j]? = some (some e)) (hz : kvs.length < sizeLine)
    (hstep : ∀ C s' H' fp G' d, d ∈ kvs.map (·.1) → ∃ ρ', f d (pick caps ρ) = some ρ' ∧ PX (compCx X Nc scope C s' H' fp) ρ' G' elt (g d)) (hfs : ∀ x, foldedSetIterable iter X.env x = pure x := by intro _; rfl) :
    PX X ρ G (.ListComp elt [⟨target, iter, [], 0⟩] scope cpos) (.lst ((kvs.map (·.1)).map g)) := by
  intro pins s σ H I S
  rw [eval_ListComp]
  refine wpAny_comprehension_free (use := none) rfl hfs (closureFor_ok fun x hx hf => I.ok.has x.1 (Sc.free x hx hf)) Sc.kind Sc.names ?_
  refine thn (ha pins s σ H I S) fun v s1 ⟨x, H1, I1, rx, _, G1, e1, o1, r1, q1, q1'⟩ => ?_
  subst q1; subst q1'
  cases (show x = V.ref p from r1)
  cases rx
  obtain ⟨xs, hp, dr⟩ := o1 p _ hG
  obtain ⟨⟨z1, z2, z3, o, es, ep, z4, z5, z6, z7⟩, _, _⟩ := (show ObjOk X.prog X.w H1 s1.heap p (.ext (DictAt p xs)) from I1.hok p _ hp)
  refine iter_keys z1 z4 z5 z6 ?_
  have hsz : es.size = xs.length := by
    have := congrArg List.length z7
    simpa using this
  have hkl : kvs.map (·.1) = xs.map (·.1) := drep_keys dr
  have hlk : kvs.length = xs.length := by
    have := congrArg List.length hkl
    simpa using this
  have hent : ∀ (i : Nat) (hi : i < es.size), ∃ q, xs[i]? = some q ∧ es[i].key = .ref q.2.1 := fun i hi => by
    have h1 : es.toList[i]? = (xs.map entD)[i]? := by rw [z7]
    have hi' : i < xs.length := by omega
    rw [List.getElem?_map, List.getElem?_eq_getElem hi', Array.getElem?_toList, Array.getElem?_eq_getElem hi] at h1
    refine ⟨xs[i], List.getElem?_eq_getElem hi', ?_⟩
    have h2 : es[i] = entD xs[i] := by simpa using h1
    rw [h2]; rfl
  -- the dict stands still while its keys are walked
  have ne_of : ∀ b, G1 b = none → b ≠ p := fun b h e => by subst e; rw [hG] at h; cases h
  have hH2 : ∀ b, b ≠ p → upd H1 p (exO p o) b = H1 b := fun b hb => upd_ne hb
  have E2 : Ext H1 G1 (upd H1 p (exO p o)) (rel G1 p) := ⟨fun b u e h => by rw [hH2 b (ne_of b h)]; exact e, fun b h => by
    by_cases hb : b = p
    · subst hb; rw [rel_same] at h; exact absurd rfl h
    · rw [rel_ne hb] at h; exact .inl h⟩
  have O2 : GOk X.K (upd H1 p (exO p o)) (rel G1 p) := fun b u q => by
    have hb : b ≠ p := by rintro rfl; rw [rel_same] at q; cases q
    rw [rel_ne hb] at q
    exact (o1 b u q).ext E2.hid (hH2 b hb)
  have hpl : p < s1.heap.objs.size := Heap.lt_size z4
  have kp : ∀ b u, s1.heap.get? b = some u → (s1.heap.push { cls := .type "dict_keyiterator", data := .fields #[.ref p, .int 0 0, .int es.size 0, .int ep 0] }).get? b = some u := fun b u e => Heap.get?_push_of_some _ e
  have I2 : Inv X pins σ (upd H1 p (exO p o)) { s1 with heap := s1.heap.push { cls := .type "dict_keyiterator", data := .fields #[.ref p, .int 0 0, .int es.size 0, .int ep 0] }, toks := s1.toks } :=
    I1.write (x := p) (e := p) (by rw [hp]; trivial) (.inl rfl) (fun b u _ e => kp b u e) ⟨o, kp _ _ z4⟩ (exO_ok (kp _ _ z4))
  have hf2 : ∀ b ∈ [s1.heap.objs.size], FpOk X pins (upd H1 p (exO p o)) b := fun b hb => by
    rw [List.mem_singleton.mp hb]
    have := I1.fpOk (b := s1.heap.objs.size) (Nat.le_refl _) (I1.hok.fresh (Nat.le_refl _))
    obtain ⟨f0, f1, f2, f3, f4, f5⟩ := this
    exact ⟨by rw [hH2 _ (Nat.ne_of_gt hpl)]; exact f0, f1, f2, f3, f4, f5⟩
  have wk : Wk X.K (ItK p o es) (upd H1 p (exO p o)) (rel G1 p) (kvs.map (·.1)) := by
    intro H' G' e
    have hp' : H' p = some (exO p o) := e.keep p _ upd_same rel_same
    refine ⟨fun i d hd => ?_, hp', by rw [List.length_map, hlk, hsz]⟩
    rw [hkl, List.getElem?_map] at hd
    obtain ⟨q, hq, rfl⟩ := Option.map_eq_some_iff.mp hd
    have hi : i < es.size := by rw [hsz]; exact (List.getElem?_eq_some_iff.mp hq).1
    refine ⟨⟨hp', hi⟩, fun x H'' hh => ?_⟩
    obtain ⟨rfl, hi', a, hka, rfl⟩ := hh
    obtain ⟨q', hq', hk'⟩ := hent i hi
    rw [hq] at hq'
    cases hq'
    rw [hka] at hk'
    cases hk'
    refine ⟨Ext.refl, fun z => z, fun _ => ?_⟩
    exact ((dr.keys q (List.mem_of_getElem? hq)).2.same E2.hid).same e.hid
  refine comp_core (ρ := ρ) (G := rel G1 p) (l := kvs.map (·.1)) (H := upd H1 p (exO p o)) (RR := fun acc C => compPost (model X.prog X.w) X.A X.xe none (EP X pins σ (Po X H G1 fun d' G' => d' = .lst ((kvs.map (·.1)).map g) ∧ G' = G1)) acc C) (fun i acc G' => G' = rel G1 p ∧ acc = ((kvs.map (·.1)).take i).map g) (turnIs_0 elt target iter scope cpos) Sc hcalm hg hle (by rw [List.length_map]; exact Nat.le_of_lt hz) ?_ I2 (S.ext (e1.trans E2) O2) (turn_keys (it := s1.heap.objs.size) z6 fun i hi => let ⟨q, _, h⟩ := hent i hi; ⟨_, h⟩) ⟨_, Heap.get?_push_size _ rfl, rfl, rfl⟩ hf2 wk ⟨rfl, by simp⟩ ?_
  · rintro C s' H' fp Dd i d acc G' hd ⟨rfl, rfl⟩ hD
    obtain ⟨ρ', h1, h2⟩ := hstep C s' H' fp (put (rel G1 p) Dd (.lst (((kvs.map (·.1)).take i).map g))) d (List.mem_of_getElem? hd)
    refine ⟨ρ', h1, wtail_emit rfl put_same ?_ (PX.we h2 ⟨put_same, _, rel G1 p, ?_, hD, put_put, rfl, ?_⟩)⟩
    · have : (((kvs.map (·.1)).take i).map g).length ≤ kvs.length := by rw [List.length_map, List.length_take, List.length_map]; omega
      omega
    · simp
    · rw [List.take_add_one, hd]
      simp
  · rintro D C s3 sf σc Hf Gf acc k3 rfl ⟨H3, I3, f3, Ic⟩ ef of hGf ⟨rfl, rfl⟩
    obtain ⟨m, hm, _⟩ := Ic.loc
    refine ⟨m, hm, fun h' hs => ?_⟩
    have If := comp_leave I3 f3 Ic hs
    obtain ⟨E3, O3, R3⟩ := own_rel (X := X) of put_same
    rw [rel_put hGf] at E3 O3 R3
    have E4 := ef.trans E3
    have hpf : Hf p = some (exO p o) := E4.keep p _ upd_same rel_same
    obtain ⟨zz, _, _⟩ := (show ObjOk X.prog X.w Hf _ p (exO p o) from If.hok p _ hpf)
    have dat : DictAt p xs h' := ⟨z1, z2, z3, o, es, ep, zz, z5, z6, z7⟩
    have I4 := If.write (t' := sf.toks) (x := p) (e := p) (o := dctO p xs) (by rw [hpf]; trivial) (.inl rfl) (fun b u _ e => e) ⟨o, zz⟩ (dct_ok dat)
    have hH4 : ∀ b, b ≠ p → upd Hf p (dctO p xs) b = Hf b := fun b hb => upd_ne hb
    have k14 : ∀ b u, H1 b = some u → G1 b = none → upd Hf p (dctO p xs) b = some u := fun b u e h => by
      have hb := ne_of b h
      rw [hH4 b hb]
      exact E4.keep b u (by rw [hH2 b hb]; exact e) (by rw [rel_ne hb]; exact h)
    have E5 : Ext H1 G1 (upd Hf p (dctO p xs)) G1 := ⟨k14, fun b h => .inl h⟩
    have SX : SameX (hid Hf (rel G1 p)) (hid (upd Hf p (dctO p xs)) G1) := fun b u h => by
      obtain ⟨h1, h2⟩ := hid_get h
      by_cases hb : b = p
      · subst hb
        rw [hpf] at h2
        cases h2
        exact .inr ⟨_, rfl⟩
      · rw [rel_ne hb] at h1
        exact .inl (hid_of h1 (by rw [hH4 b hb]; exact h2))
    refine ⟨.ref D, _, I4, rfl, .lst _, G1, e1.trans E5, fun b u q => ?_, R3.x SX, by rw [List.take_length], rfl⟩
    by_cases hb : b = p
    · subst hb
      rw [hG] at q
      cases q
      exact ⟨xs, upd_same, dr.same E5.hid⟩
    · exact (O3 b u (by rw [rel_ne hb]; exact q)).x SX (hH4 b hb)
end
end TF
namespace TF
open PySem PySem.Spec L2
open PyProof.Rows hiding St RelV
section
variable {prog : Program} {w : World} {A : Around} {R : Result → Shared → Prop} {I : Addr} {fp wr : List Addr} {n : Nat} {P : Nat → Value → Prop} {St : Nat → Heap → Prop} {kw : List (Str × Value)}
theorem maxD_loop (W : Walks prog w A.in1 I fp wr n P St) (bt : Nat → Nat → Bool) (hcmp : CmpOf prog w A.in1 .Gt P bt) (S : Addr) (hSf : S ∉ fp) :
    ∀ (k j : Nat) (s : Shared) (vb : Value) (c : Nat), n - (j + 1) = k → j + 1 ≤ n → St (j + 1) s.heap → P (argBest bt j) vb →
    s.heap.get? S = some { cls := .type "list", dict := none, data := .seq #[vb, vb] c, slots := #[] } →
    (∀ v h' tk, P (argBest bt (n - 1)) v → (∀ b o, b ∉ wr → b ≠ S → s.heap.get? b = some o → h'.get? b = some o) → R (.ok (.ret v)) { s with heap := h', toks := tk }) →
    codeAny (model prog w) A (.builtin "max.loop" ⟨[.ref I, .none, .ref S], kw⟩) R s := by
  have hSw : S ∉ wr := fun h => hSf (W.sub _ h)
  have hname : (toString "max" ++ toString ".loop" : String) = "max.loop" := by decide
  intro k
  induction k with
  | zero =>
    intro j s vb c hk hj hst hPb hS hR
    have hin : j + 1 = n := by omega
    refine codeAny_builtin PySem.F.entry_max_loop ?_
    rw [Around.under_plainId PySem.F.plain_max_loop _]
    show wpAny _ A.in1 (seqItems? (.ref S) >>= _) _ _ s
    refine wpAny_bind (wpAny_seqItems hS rfl ?_)
    show wpAny _ A.in1 (tryCatch (pyNext (.ref I)) _ >>= _) _ _ s
    refine wpAny_bind (wpAny_tryCatch (W.done s _ _ (hin ▸ hst) fun h' tk hk' => ?_))
    have hS' := hk' S _ hSw hS
    show wpAny _ A.in1 (updateSeq S (fun _ => #[]) >>= _) _ _ _
    refine wpAny_bind ?_
    refine wpAny_updateSeq hS' rfl (wpAny_bind (wpAny_letGo (wpAny_pure ?_)))
    refine hR vb _ tk (by rw [← hin]; exact hPb) fun b o hbw hbS e => (Heap.get?_update_other _ _ (Ne.symm hbS)).trans (hk' b o hbw e)
  | succ k ih =>
    intro j s vb c hk hj hst hPb hS hR
    have hlt : j + 1 < n := by omega
    refine codeAny_builtin PySem.F.entry_max_loop ?_
    rw [Around.under_plainId PySem.F.plain_max_loop _]
    show wpAny _ A.in1 (seqItems? (.ref S) >>= _) _ _ s
    refine wpAny_bind (wpAny_seqItems hS rfl ?_)
    show wpAny _ A.in1 (tryCatch (pyNext (.ref I)) _ >>= _) _ _ s
    refine wpAny_bind (wpAny_tryCatch (W.item (j + 1) s _ _ hlt hst fun v h' tk hP hst' hk' => ?_))
    have hS' := hk' S _ hSw hS
    show wpAny _ A.in1 (tryCatch (holding [v, v] (richCompare .Gt v vb >>= _)) _ >>= _) _ _ _
    refine wpAny_bind (wpAny_tryCatch (wpAny_holding (wpAny_bind (hcmp (j + 1) (argBest bt j) v vb _ _ _ hP hPb ?_))))
    refine wpAny_bind (wpAny_holding (wpAny_truthy_bool ?_))
    refine wpAny_bind (wpAny_letGo (wpAny_pure ?_))
    cases hb : bt (j + 1) (argBest bt j) with
    | true =>
      simp only [if_true]
      refine wpAny_bind ?_
      refine wpAny_updateSeq hS' rfl (wpAny_bind (wpAny_letGo ?_))
      rw [hname]
      refine wpAny_pure ⟨plainId_quiet PySem.F.plain_max_loop _, ih (j + 1) _ v _ (by omega) hlt (W.frame _ _ _ hst' fun b hbf o e => ?_) (by simp only [argBest, hb, if_true]; exact hP) (Heap.get?_update_self _ hS' rfl)
        fun v' h'' tk'' hP' hk'' => ?_⟩
      · exact (Heap.get?_update_other _ _ (fun h : S = b => hSf (by rw [h]; exact hbf))).trans e
      · exact hR v' h'' tk'' hP' fun b o hbw hbS e => hk'' b o hbw hbS ((Heap.get?_update_other _ _ (Ne.symm hbS)).trans (hk' b o hbw e))
    | false =>
      simp only [Bool.false_eq_true, if_false]
      refine wpAny_bind (wpAny_letGo ?_)
      rw [hname]
      refine wpAny_pure ⟨plainId_quiet PySem.F.plain_max_loop _, ih (j + 1) _ vb c (by omega) hlt hst' (by simp only [argBest, hb, Bool.false_eq_true, if_false]; exact hPb) hS' fun v' h'' tk'' hP' hk'' => ?_⟩
      exact hR v' h'' tk'' hP' fun b o hbw hbS e => hk'' b o hbw hbS (hk' b o hbw e)
theorem maxD_first (W : Walks prog w A.in1 I fp wr n P St) (bt : Nat → Nat → Bool) (hcmp : CmpOf prog w A.in1 .Gt P bt) (S : Addr) (hSf : S ∉ fp) (hn : 0 < n) {s : Shared} {c : Nat} (hst : St 0 s.heap)
    (hS : s.heap.get? S = some { cls := .type "list", dict := none, data := .seq #[] c, slots := #[] })
    (hR : ∀ v h' tk, P (argBest bt (n - 1)) v → (∀ b o, b ∉ wr → b ≠ S → s.heap.get? b = some o → h'.get? b = some o) → R (.ok (.ret v)) { s with heap := h', toks := tk }) :
    codeAny (model prog w) A (.builtin "max.loop" ⟨[.ref I, .none, .ref S], kw⟩) R s := by
  have hSw : S ∉ wr := fun h => hSf (W.sub _ h)
  have hname : (toString "max" ++ toString ".loop" : String) = "max.loop" := by decide
  refine codeAny_builtin PySem.F.entry_max_loop ?_
  rw [Around.under_plainId PySem.F.plain_max_loop _]
  show wpAny _ A.in1 (seqItems? (.ref S) >>= _) _ _ s
  refine wpAny_bind (wpAny_seqItems hS rfl ?_)
  show wpAny _ A.in1 (tryCatch (pyNext (.ref I)) _ >>= _) _ _ s
  refine wpAny_bind (wpAny_tryCatch (W.item 0 s _ _ hn hst fun v h' tk hP hst' hk' => ?_))
  have hS' := hk' S _ hSw hS
  show wpAny _ A.in1 (updateSeq S (fun _ => #[v, v]) >>= _) _ _ _
  refine wpAny_bind ?_
  refine wpAny_updateSeq hS' rfl ?_
  rw [hname]
  refine wpAny_pure ⟨plainId_quiet PySem.F.plain_max_loop _, maxD_loop W bt hcmp S hSf _ 0 _ v _ rfl hn (W.frame _ _ _ hst' fun b hbf o e => ?_) hP (Heap.get?_update_self _ hS' rfl) fun v' h'' tk'' hP' hk'' => ?_⟩
  · exact (Heap.get?_update_other _ _ (fun h : S = b => hSf (by rw [h]; exact hbf))).trans e
  · exact hR v' h'' tk'' hP' fun b o hbw hbS e => hk'' b o hbw hbS ((Heap.get?_update_other _ _ (Ne.symm hbS)).trans (hk' b o hbw e))
end
section
variable {prog : Program} {w : World} {A : Around} {E : Value → Shared → Prop} {s : Shared}
theorem args_maxD (a v : Value) : argsOk "max" ⟨[a], [(Str.ofString "default", v)]⟩ := by unfold argsOk; kernel_rfl
theorem call_maxD {x d : Value} {Q : Value → Shared → Prop}
    (h : wpAny (model prog w) A.in1 (pyIter x) (fun it s₂ => ∃ I fp wr n P St bt, it = .ref I ∧ Walks prog w A.in1 I fp wr n P St ∧ St 0 s₂.heap ∧ (∀ b ∈ fp, b < s₂.heap.objs.size) ∧ 0 < n ∧ CmpOf prog w A.in1 .Gt P bt ∧
      ∀ v h' tk, P (argBest bt (n - 1)) v → (∀ b o, b ∉ wr → s₂.heap.get? b = some o → h'.get? b = some o) → Q v { s₂ with heap := h', toks := tk }) E s) :
    wpAny (model prog w) A (call (.builtin "max") [x] [(Str.ofString "default", d)]) Q E s := by
  have hname : (toString "max" ++ toString ".loop" : String) = "max.loop" := by decide
  refine PyProof.Rows.kmb_tree PySem.F.kind_max PySem.F.plain_max PySem.F.entry_max (args_maxD _ _) ?_
  show wpAny _ A.in1 (Builtin.Builtins.bindParams "max" ["key", "default"] 0 ⟨[], [(Str.ofString "default", d)]⟩ >>= _) _ _ s
  refine wpAny_bind (wpAny_of_eq (show Builtin.Builtins.bindParams "max" ["key", "default"] 0 ⟨[], [(Str.ofString "default", d)]⟩ = pure [none, some d] from by kernel_rfl) ?_)
  refine wpAny_bind (wpAny_pure ?_)
  refine wpAny_bind (wpAny_mono h (fun it s₂ h₂ => ?_) fun _ _ e => e)
  obtain ⟨I, fp, wr, n, P, St, bt, rfl, W, hst, hfp, hn, hcmp, hQ⟩ := h₂
  refine wpAny_bind (wpAny_newObj_type ?_)
  have hSf : s₂.heap.objs.size ∉ fp := fun hm => Nat.lt_irrefl _ (hfp _ hm)
  rw [hname]
  refine wpAny_pure ⟨plainId_quiet PySem.F.plain_max_loop _, maxD_first W bt hcmp s₂.heap.objs.size hSf hn (W.frame _ _ _ hst fun b _ o e => Heap.get?_push_of_some _ e) (Heap.get?_push_size _ rfl) fun v h' tk hP hk => ?_⟩
  exact hQ v h' tk hP fun b o hbw e => hk b o hbw (Nat.ne_of_lt (Heap.lt_size e)) (Heap.get?_push_of_some _ e)
theorem maxD_intList {l : Addr} {xs : Array (Int × Tok)} {d : Value} {Q : Value → Shared → Prop} (hh : A.handled = none) (hl : s.heap.IsList l (intItems xs)) (hne : 0 < xs.size)
    (h : ∀ v h' tk, (intItems xs)[argBest (fun i j => decide (numAt xs i > numAt xs j)) (xs.size - 1)]? = some v → (∀ b o, s.heap.get? b = some o → h'.get? b = some o) → Q v { s with heap := h', toks := tk }) :
    wpAny (model prog w) A (call (.builtin "max") [.ref l] [(Str.ofString "default", d)]) Q E s := by
  refine call_maxD (iter_intList hl fun s₂ e st hfp hlI => ?_)
  subst e
  refine ⟨_, _, _, _, _, _, _, rfl, Walks.list (A := A.in1) hh _ l hlI (intItems xs), st, hfp, by simpa [intItems] using hne, CmpOf.ints_gt (numAt xs) (fun _ _ => intItems_at), fun v h' tk hP hk => ?_⟩
  exact h v h' tk (by simpa [intItems] using hP) (old_kept hk)
end
section
variable {X : Cx} {ρ : Rho} {G : Gs} {a b c : Expr} {d : Dat} {pos : Pos}
theorem px_maxLd {ns : List Int} {M : Int} {pp kp : Pos} {dv : Dat} (hc : X.calm = true) (hm : X.mg "max" = none) (ha : PX X ρ G a (.lst (ns.map .int))) (hb : PX X ρ G b dv) (h1 : M ∈ ns) (h2 : ∀ a ∈ ns, a ≤ M) (hg : Gl X "max" := by rfl)
    (he : starEach [a] X.env = (false, eval a X.env) :: starEach [] X.env := by rfl) (he' : backTo pos (starEach [a] X.env) = (false, eval a X.env) :: backTo pos (starEach [] X.env) := by rfl)
    (hplain : (backTo pos (starEach [a] X.env)).any (·.1) = false := by rfl) :
    PX X ρ G (.Call (.Name "max" pp) [a] [⟨some "default", b, kp⟩] pos) (.int M) := by
  intro pins s σ H I S
  refine wpAny_Call_Name_kw (ld_blt I hg hm (by decide +kernel : bootBuiltins "max" = some (.builtin "max")) ?_ (by decide) (by decide))
  refine PyProof.Rows.callWith_kw (PyProof.Rows.spliced_more (thn (ha pins s σ H I S) fun u s1 ⟨x, H1, I1, r1, _, G1, e1, o1, rx, q1, q2⟩ => PyProof.Rows.spliced_none ?_) he) he' hplain
  subst q1; subst q2
  refine PyProof.Rows.kws_cons (thn (hb pins s1 σ H1 I1 (S.ext e1 o1)) fun u2 s2 ⟨y, H2, I2, r2, _, G2, e2, o2, ry, q3, q4⟩ => PyProof.Rows.kws_nil ?_)
  subst q3; subst q4
  have rx' := rx.same e2.hid
  rw [Rep] at rx'
  obtain ⟨p, vs, rfl, g1, g2⟩ := rx'
  cases r1
  have hq : SqL X.K H2 p (ns.map V.int) := by rw [← g2.ints]; exact SqL.of (hid_le _ _ g1)
  obtain ⟨its, r', pl, hz⟩ := I2.list hq
  have hi : IntsAre its ns := intsAre_of r'
  obtain ⟨xs, hx⟩ := hi.allInts.items
  have hns : ns = xs.toList.map (·.1) := by rw [← hi.numsOf, ← nums_intItems, ← hx]
  have hsz : 0 < xs.size := by
    have h3 : 0 < ns.length := List.length_pos_of_mem h1
    rw [hns, List.length_map, Array.length_toList] at h3; exact h3
  have hl := pl.isList
  rw [hx] at hl
  show wpAny _ _ (call (.builtin "max") [.ref p] [(Str.ofString "default", u2)]) _ _ _
  refine maxD_intList (I2.ok.hd hc) hl hsz fun v h' tk hv hk => ?_
  obtain ⟨t, rfl⟩ := intItems_at hv
  obtain ⟨m1, m2⟩ := argBest_gt (numAt xs) (xs.size - 1)
  have hM : M = numAt xs (argBest (fun i j => decide (numAt xs i > numAt xs j)) (xs.size - 1)) := by
    refine Int.le_antisymm ?_ (h2 _ ?_)
    · rw [hns] at h1
      obtain ⟨j, hj, rfl⟩ := mem_getD h1
      rw [List.length_map, Array.length_toList] at hj
      rw [← numAt_eq]; exact m2 j (by omega)
    · rw [hns, numAt_eq]; exact getD_mem (by rw [List.length_map, Array.length_toList]; omega)
  exact ⟨.int _, H2, I2.kept hk, ⟨t, rfl⟩, .int M, _, e1.trans e2, o2, by rw [Rep, hM], rfl, rfl⟩
theorem px_dgetd {kvs : List (Dat × Dat)} {p : Addr} {k dd : Dat} {apos cpos : Pos} (hu : X.A.units + 9 < cLine) (ha : PX X ρ G a (.fn p)) (hb : PX X ρ G b k) (hc : PX X ρ G c dd) (hG : G p = some (.dct kvs)) (hk : keyD 6 k = true) (hr : ∃ l, k = .tup l)
    (hbase : attributeBase a "get" X.env (eval a X.env) = eval a X.env := by rfl)
    (hfew : ((backTo cpos (starEach [b, c] X.env)).all (fun x => !x.1) && (backToKw cpos (keywordEach [] X.env)).all (fun x => x.1.isSome) && decide (([b, c] : List Expr).length + ([] : List Keyword).length + (if ([] : List Keyword).isEmpty then 0 else 1) < 30)) = true := by rfl)
    (hline : (apos.endLine == cpos.line) = true := by rfl) (hs : starEach [b, c] X.env = (false, eval b X.env) :: starEach [c] X.env := by rfl) (hs2 : starEach [c] X.env = (false, eval c X.env) :: starEach [] X.env := by rfl) (hpl : (backTo cpos (starEach [c] X.env)).any (·.1) = false := by rfl) :
    PX X ρ G (.Call (.Attribute a "get" apos) [b, c] [] cpos) ((lookD kvs k).getD dd) := by
  intro pins s σ H I S
  refine wpAny_Call_method_late hbase hfew hline rfl (thn (ha pins s σ H I S) fun u s1 ⟨x, H1, I1, rx, _, G1, e1, o1, r1, q1, q1'⟩ => ?_)
  subst q1; subst q1'
  cases (show x = V.ref p from r1)
  cases rx
  obtain ⟨xs1, h31, r31⟩ := o1 p _ hG
  obtain ⟨y1, y2, dd1⟩ := dict_of I1 h31 (r31.same hid_le)
  refine ⟨"dict", "dict.get", PySem.F.plainAttrs_dict, PySem.F.slot_dict_get, PySem.F.type_dict_get, dd1.typeIs, ?_, ?_⟩
  · obtain ⟨o, es, ep, ho, hc, _⟩ := dd1
    intro b hb
    cases hb
    exact ⟨o, ho, hc.2.1⟩
  have hA := (pxs_cons hb (pxs_cons hc pxs_nil hs2) hs : PXs X ρ G1 [b, c] [k, dd]) cpos pins s1 σ H1 I1 (S.ext e1 o1)
  rw [hs] at hA ⊢
  refine Calls.callWith_builtin (by show (false || (backTo cpos (starEach [c] X.env)).any (·.1)) = false; rw [hpl]; rfl) (Calls.evalArgs_plain ?_)
  refine thn hA fun us s2 ⟨vs, H2, I2, rv, _, G2, e2, o2, r2, q2, q2'⟩ => ?_
  subst q2; subst q2'
  rw [RepL] at r2
  obtain ⟨y, r, rfl, r2a, r2⟩ := r2
  rw [RepL] at r2
  obtain ⟨z, r, rfl, r2b, r2⟩ := r2
  rw [RepL] at r2
  subst r2
  obtain ⟨u2, u3, rfl, ry, rz⟩ := vals2 rv
  obtain ⟨l, rfl⟩ := hr
  have r2' := r2a.same hid_le
  have hx : ∃ t, y = V.ref t := by rw [Rep] at r2'; obtain ⟨t, _, e, _⟩ := r2'; exact ⟨t, e⟩
  obtain ⟨t, rfl⟩ := hx
  cases ry
  obtain ⟨xs, h3, r3⟩ := o2 p _ hG
  obtain ⟨z1, z2, dc⟩ := dict_of I2 h3 (r3.same hid_le)
  refine call_meetsIn PySem.F.slot_dict_get dc.typeIs PySem.F.entry_dict_get (PySem.F.args_dict_get_3 _ _ _) (meetsH_dict_get_default (datKind X.prog X.w) p t z1 u3) ⟨show X.A.units + 1 + 6 < cLine by omega, _, _, key_at I2 hk r2', dc, ?_⟩
  cases hl : lookD kvs (.tup l) with
  | none =>
    have := (DRep.look (.tup l) r3).1
    rw [hl] at this
    have hn : atKey xs (.tup l) = none := by
      cases q : atKey xs (.tup l) with
      | none => rfl
      | some _ => rw [q] at this; cases this
    rw [hn]
    exact ⟨z, H2, I2.tok _, rz, dd, _, e1.trans e2, o2, r2b, rfl, rfl⟩
  | some d =>
    obtain ⟨q, v, hq, rv, rd⟩ := (DRep.look _ r3).2 d hl
    rw [hq]
    exact ⟨v, H2, I2.tok _, rv, d, _, e1.trans e2, o2, rd, rfl, rfl⟩
end
end TF
namespace TF
open PySem PySem.Spec L2
open PyProof.Rows hiding St RelV
noncomputable def signF (s : Stone) : Nat := if s.1.2 = s.2.2 then 94 else 60
noncomputable def signS (s : Stone) : Nat := if s.1.2 = s.2.2 then 118 else 62
noncomputable def hitB (p : Sq) (s : Stone) : Bool := decide (s.1 = p) || decide (s.2 = p)
noncomputable def sgn (k : Lay) (p : Sq) : Nat := match k.find? (hitB p) with
  | some s => if s.1 = p then signF s else signS s
  | none => 46
noncomputable def rowM (k : Lay) (w r : Nat) : List Nat := (List.range w).map fun (c : Nat) => sgn k ((r : Int), (c : Int))
noncomputable def textM (k : Lay) (h w : Nat) : List Nat := (List.range h).flatMap fun r => rowM k w r ++ [10]
noncomputable def stoneAt (i j : Nat) (c : Option Nat) : Lay := if c = some 60 then [(((i : Int), (j : Int)), ((i : Int), (j : Int) + 1))] else if c = some 94 then [(((i : Int), (j : Int)), ((i : Int) + 1, (j : Int)))] else []
noncomputable def lineM (i : Nat) (cs : List Nat) : Lay := (List.range cs.length).flatMap fun j => stoneAt i j cs[j]?
noncomputable def stonesM (ls : List (List Nat)) : Lay := (List.range ls.length).flatMap fun i => lineM i (ls.getD i [])
theorem sgn_mem {k : Lay} {p : Sq} {c : Nat} (h : sgn k p = c) : (∃ s ∈ k, s.1 = p ∧ c = signF s) ∨ (∃ s ∈ k, s.2 = p ∧ c = signS s) ∨ c = 46 := by
  unfold sgn at h
  split at h
  · rename_i s hs
    have hm := List.mem_of_find?_eq_some hs
    have hp := List.find?_some hs
    unfold hitB at hp
    split at h
    · rename_i e; exact .inl ⟨s, hm, e, h.symm⟩
    · rename_i e
      simp [e] at hp
      exact .inr (.inl ⟨s, hm, hp, h.symm⟩)
  · exact .inr (.inr h.symm)
theorem sgn_cons (s : Stone) (k : Lay) (p : Sq) : sgn (s :: k) p = if s.1 = p then signF s else if s.2 = p then signS s else sgn k p := by
  unfold sgn
  rw [List.find?_cons]
  unfold hitB
  by_cases h1 : s.1 = p
  · simp [h1]
  · by_cases h2 : s.2 = p
    · simp [h1, h2]
    · simp [h1, h2]
theorem sqs_cons (s : Stone) (k : Lay) : sqsOf (s :: k) = s.1 :: s.2 :: sqsOf k := rfl
theorem sgn_fst {k : Lay} (nd : (sqsOf k).Nodup) {s : Stone} (hs : s ∈ k) : sgn k s.1 = signF s := by
  induction k with
  | nil => cases hs
  | cons t k ih =>
    rw [sqs_cons, List.nodup_cons, List.nodup_cons] at nd
    obtain ⟨n1, n2, n3⟩ := nd
    rw [sgn_cons]
    rcases List.mem_cons.mp hs with rfl | hs
    · rw [if_pos rfl]
    · have hm : s.1 ∈ sqsOf k := mem_sqs.mpr ⟨s, hs, .inl rfl⟩
      rw [if_neg (show ¬ t.1 = _ from fun e => n1 (List.mem_cons_of_mem _ (by rw [e]; exact hm))), if_neg (show ¬ t.2 = _ from fun e => n2 (by rw [e]; exact hm))]
      exact ih n3 hs
theorem sgn_snd {k : Lay} (nd : (sqsOf k).Nodup) {s : Stone} (hs : s ∈ k) : sgn k s.2 = signS s := by
  induction k with
  | nil => cases hs
  | cons t k ih =>
    rw [sqs_cons, List.nodup_cons, List.nodup_cons] at nd
    obtain ⟨n1, n2, n3⟩ := nd
    rw [sgn_cons]
    rcases List.mem_cons.mp hs with rfl | hs
    · rw [if_neg (fun e => n1 (by rw [e]; exact List.mem_cons_self ..)), if_pos rfl]
    · have hm : s.2 ∈ sqsOf k := mem_sqs.mpr ⟨s, hs, .inr rfl⟩
      rw [if_neg (show ¬ t.1 = _ from fun e => n1 (List.mem_cons_of_mem _ (by rw [e]; exact hm))), if_neg (show ¬ t.2 = _ from fun e => n2 (by rw [e]; exact hm))]
      exact ih n3 hs
theorem sgn_none {k : Lay} {p : Sq} (h : p ∉ sqsOf k) : sgn k p = 46 := by
  induction k with
  | nil => rfl
  | cons t k ih =>
    rw [sqs_cons] at h
    simp only [List.mem_cons, not_or] at h
    rw [sgn_cons, if_neg (fun e => h.1 e.symm), if_neg (fun e => h.2.1 e.symm)]
    exact ih h.2.2
theorem st_ext {l m : Lay} (hl : l.Pairwise fun s t => sqLt s.1 t.1) (hm : m.Pairwise fun s t => sqLt s.1 t.1) (h : ∀ x, x ∈ l ↔ x ∈ m) : l = m := by
  induction l generalizing m with
  | nil =>
    cases m with
    | nil => rfl
    | cons b m => exact absurd ((h b).mpr (List.mem_cons_self ..)) (by simp)
  | cons a l ih =>
    cases m with
    | nil => exact absurd ((h a).mp (List.mem_cons_self ..)) (by simp)
    | cons b m =>
      rw [List.pairwise_cons] at hl hm
      have e : a = b := by
        rcases List.mem_cons.mp ((h a).mp (List.mem_cons_self ..)) with e | e
        · exact e
        · rcases List.mem_cons.mp ((h b).mpr (List.mem_cons_self ..)) with e2 | e2
          · exact e2.symm
          · exact (sqLt_irrefl _ (sqLt_trans (hl.1 b e2) (hm.1 a e))).elim
      subst e
      rw [ih hl.2 hm.2 fun x => ?_]
      constructor
      · intro hx
        rcases List.mem_cons.mp ((h x).mp (List.mem_cons_of_mem _ hx)) with e | e
        · subst e; exact (sqLt_irrefl _ (hl.1 x hx)).elim
        · exact e
      · intro hx
        rcases List.mem_cons.mp ((h x).mpr (List.mem_cons_of_mem _ hx)) with e | e
        · subst e; exact (sqLt_irrefl _ (hm.1 x hx)).elim
        · exact e
theorem at_mem {i j : Nat} {c : Option Nat} {s : Stone} : s ∈ stoneAt i j c ↔ s.1 = ((i : Int), (j : Int)) ∧ ((c = some 60 ∧ s.2 = ((i : Int), (j : Int) + 1)) ∨ (c = some 94 ∧ s.2 = ((i : Int) + 1, (j : Int)))) := by
  unfold stoneAt
  obtain ⟨a, b⟩ := s
  split
  · rename_i h; simp [h]
  · split
    · rename_i h; simp [h]
    · rename_i h1 h2; simp [h1, h2]
theorem line_mem {i : Nat} {cs : List Nat} {s : Stone} : s ∈ lineM i cs ↔ ∃ j, j < cs.length ∧ s ∈ stoneAt i j cs[j]? := by
  unfold lineM
  simp [List.mem_flatMap]
theorem stones_mem {ls : List (List Nat)} {s : Stone} : s ∈ stonesM ls ↔ ∃ i, i < ls.length ∧ s ∈ lineM i (ls.getD i []) := by
  unfold stonesM
  simp [List.mem_flatMap]
theorem line_up (i : Nat) (cs : List Nat) : (lineM i cs).Pairwise fun s t => sqLt s.1 t.1 := by
  unfold lineM
  rw [List.pairwise_flatMap]
  refine ⟨fun j _ => ?_, List.pairwise_lt_range.imp fun {a b} hab x hx y hy => ?_⟩
  · unfold stoneAt; split
    · simp
    · split <;> simp
  · rw [at_mem] at hx hy
    rw [hx.1, hy.1]
    exact .inr ⟨rfl, by simp only; omega⟩
theorem stones_up (ls : List (List Nat)) : (stonesM ls).Pairwise fun s t => sqLt s.1 t.1 := by
  unfold stonesM
  rw [List.pairwise_flatMap]
  refine ⟨fun i _ => line_up i _, List.pairwise_lt_range.imp fun {a b} hab x hx y hy => ?_⟩
  obtain ⟨j, _, hx⟩ := line_mem.mp hx
  obtain ⟨j', _, hy⟩ := line_mem.mp hy
  rw [at_mem] at hx hy
  rw [hx.1, hy.1]
  exact .inl (by simp only; omega)
theorem read_lines {F : List Sq} {k : Lay} (J : IsLay F k) (nd : F.Nodup) {h w : Nat} (box : ∀ p ∈ F, 0 ≤ p.1 ∧ p.1 < h ∧ 0 ≤ p.2 ∧ p.2 < w) : stonesM ((List.range h).map (rowM k w) ++ [[]]) = k := by
  have ndk : (sqsOf k).Nodup := J.pm.nodup_iff.mpr nd
  refine st_ext (stones_up _) J.up fun s => ?_
  have cell : ∀ i j : Nat, i < h → j < w → (((List.range h).map (rowM k w) ++ [[]]).getD i [])[j]? = some (sgn k ((i : Int), (j : Int))) ∧ (((List.range h).map (rowM k w) ++ [[]]).getD i []).length = w := fun i j hi hj => by
    have e : ((List.range h).map (rowM k w) ++ [[]]).getD i [] = rowM k w i := by
      rw [List.getD_eq_getElem?_getD, List.getElem?_append_left (by simpa using hi), List.getElem?_map, List.getElem?_range hi]
      rfl
    rw [e]
    unfold rowM
    rw [List.getElem?_map, List.getElem?_range hj, List.length_map, List.length_range]
    exact ⟨rfl, rfl⟩
  rw [stones_mem]
  constructor
  · rintro ⟨i, hi, hs⟩
    obtain ⟨j, hj, hs⟩ := line_mem.mp hs
    have hih : i < h := by
      rcases Nat.lt_or_ge i h with q | q
      · exact q
      · have : ((List.range h).map (rowM k w) ++ [[]]).getD i [] = [] := by
          rw [List.getD_eq_getElem?_getD, List.getElem?_append_right (by simpa using q)]
          simp only [List.length_map, List.length_range]
          cases hh : i - h with
          | zero => rfl
          | succ n => rfl
        rw [this] at hj
        cases hj
    have hjw : j < w := by rw [(cell i 0 hih (by
      rcases Nat.eq_zero_or_pos w with q | q
      · subst q
        have e : ((List.range h).map (rowM k 0) ++ [[]]).getD i [] = [] := by
          rw [List.getD_eq_getElem?_getD, List.getElem?_append_left (by simpa using hih), List.getElem?_map, List.getElem?_range hih]
          rfl
        rw [e] at hj
        cases hj
      · exact q)).2] at hj; exact hj
    rw [(cell i j hih hjw).1, at_mem] at hs
    obtain ⟨h1, h2⟩ := hs
    rcases h2 with ⟨hc, h2⟩ | ⟨hc, h2⟩
    · have hc := Option.some.inj hc
      rcases sgn_mem hc with ⟨t, ht, e1, e2⟩ | ⟨t, ht, e1, e2⟩ | e
      · have := J.st t ht
        unfold signF at e2
        have hne : t.1.2 ≠ t.2.2 := fun q => by rw [if_pos q] at e2; cases e2
        have : s = t := by
          obtain ⟨⟨a, b⟩, c, d⟩ := t
          obtain ⟨⟨a', b'⟩, c', d'⟩ := s
          unfold sqLt nbM at this
          simp at this e1 h1 h2 hne ⊢
          omega
        rw [this]; exact ht
      · unfold signS at e2; split at e2 <;> cases e2
      · cases e
    · have hc := Option.some.inj hc
      rcases sgn_mem hc with ⟨t, ht, e1, e2⟩ | ⟨t, ht, e1, e2⟩ | e
      · have := J.st t ht
        unfold signF at e2
        have hne : t.1.2 = t.2.2 := Classical.byContradiction fun q => by rw [if_neg q] at e2; cases e2
        have : s = t := by
          obtain ⟨⟨a, b⟩, c, d⟩ := t
          obtain ⟨⟨a', b'⟩, c', d'⟩ := s
          unfold sqLt nbM at this
          simp at this e1 h1 h2 hne ⊢
          omega
        rw [this]; exact ht
      · unfold signS at e2; split at e2 <;> cases e2
      · cases e
  · intro hs
    have m1 : s.1 ∈ F := J.pm.mem_iff.mp (mem_sqs.mpr ⟨s, hs, .inl rfl⟩)
    obtain ⟨b1, b2, b3, b4⟩ := box _ m1
    have hi : s.1.1.toNat < h := by omega
    have hj : s.1.2.toNat < w := by omega
    refine ⟨s.1.1.toNat, by simp; omega, line_mem.mpr ⟨s.1.2.toNat, by rw [(cell _ _ hi hj).2]; exact hj, ?_⟩⟩
    rw [(cell _ _ hi hj).1, at_mem]
    have e1 : (((s.1.1.toNat : Nat) : Int), ((s.1.2.toNat : Nat) : Int)) = s.1 := by
      rw [Int.toNat_of_nonneg b1, Int.toNat_of_nonneg b3]
    rw [e1, sgn_fst ndk hs]
    refine ⟨rfl, ?_⟩
    have := J.st s hs
    unfold signF
    obtain ⟨⟨a, b⟩, c, d⟩ := s
    unfold sqLt nbM at this
    simp at this b1 b3 ⊢
    rw [Int.max_eq_left b1, Int.max_eq_left b3]
    by_cases hbd : b = d
    · simp [hbd]; omega
    · simp [hbd]; omega
noncomputable def jn : List (List Nat) → List Nat
  | [] => []
  | [a] => a
  | a :: b :: r => a ++ 10 :: jn (b :: r)
theorem cps_app (x y : Str) : (x ++ y).cps.toList = x.cps.toList ++ y.cps.toList := by
  show (x.cps ++ y.cps).toList = _
  rw [Array.toList_append]
theorem str_ext {x y : Str} (h : x.cps.toList = y.cps.toList) : x = y := by
  cases x; cases y
  simp only at h
  congr
  exact Array.toList_inj.mp h
theorem join_jn : ∀ ps : List Str, (Str.join ⟨#[10]⟩ ps).cps.toList = jn (ps.map fun p => p.cps.toList)
  | [] => rfl
  | [a] => rfl
  | a :: b :: r => by
    show ((a ++ (⟨#[10]⟩ : Str)) ++ Str.join ⟨#[10]⟩ (b :: r)).cps.toList = _
    rw [cps_app, cps_app, join_jn (b :: r)]
    show (a.cps.toList ++ [10]) ++ _ = a.cps.toList ++ 10 :: _
    rw [List.append_assoc]
    rfl
theorem join_nil : ∀ ps : List Str, (Str.join (Str.ofString "") ps).cps.toList = (ps.map fun p => p.cps.toList).flatten
  | [] => rfl
  | [a] => by
    show a.cps.toList = _
    simp
  | a :: b :: r => by
    show ((a ++ Str.ofString "") ++ Str.join (Str.ofString "") (b :: r)).cps.toList = _
    rw [cps_app, cps_app, join_nil (b :: r)]
    rw [show (Str.ofString "").cps.toList = [] by decide +kernel]
    simp
theorem pre_inj {a b u v : List Nat} (ha : 10 ∉ a) (hb : 10 ∉ b) (h : a ++ 10 :: u = b ++ 10 :: v) : a = b ∧ u = v := by
  induction a generalizing b with
  | nil =>
    cases b with
    | nil => simpa using h
    | cons y b => simp at h; simp [← h.1] at hb
  | cons x a ih =>
    cases b with
    | nil => simp at h; simp [h.1] at ha
    | cons y b =>
      simp at h ha hb
      obtain ⟨rfl, h⟩ := h
      obtain ⟨e1, e2⟩ := ih ha.2 hb.2 (by simpa using h)
      exact ⟨by rw [e1], e2⟩
theorem jn_has : ∀ {a b : List Nat} {r : List (List Nat)}, 10 ∈ jn (a :: b :: r) := by
  intro a b r
  show 10 ∈ a ++ 10 :: jn (b :: r)
  simp
theorem jn_inj : ∀ {ps qs : List (List Nat)}, ps ≠ [] → qs ≠ [] → (∀ p ∈ ps, 10 ∉ p) → (∀ q ∈ qs, 10 ∉ q) → jn ps = jn qs → ps = qs
  | [], _, h, _, _, _, _ => absurd rfl h
  | _, [], _, h, _, _, _ => absurd rfl h
  | [a], [b], _, _, _, _, h => by rw [show a = b from h]
  | [a], b :: c :: r, _, _, ha, _, h => by
    have : 10 ∈ jn [a] := by rw [h]; exact jn_has
    exact absurd this (ha a (by simp))
  | a :: c :: r, [b], _, _, _, hb, h => by
    have : 10 ∈ jn [b] := by rw [← h]; exact jn_has
    exact absurd this (hb b (by simp))
  | a :: c :: r, b :: d :: t, _, _, ha, hb, h => by
    obtain ⟨e1, e2⟩ := pre_inj (ha a (by simp)) (hb b (by simp)) (show a ++ 10 :: jn (c :: r) = b ++ 10 :: jn (d :: t) from h)
    rw [e1, jn_inj (ps := c :: r) (qs := d :: t) (by simp) (by simp) (fun p hp => ha p (List.mem_cons_of_mem _ hp)) (fun p hp => hb p (List.mem_cons_of_mem _ hp)) e2]
theorem jn_rows : ∀ rows : List (List Nat), jn (rows ++ [[]]) = rows.flatMap (· ++ [10])
  | [] => rfl
  | [a] => by simp [jn]
  | a :: b :: r => by
    show a ++ 10 :: jn (b :: r ++ [[]]) = _
    rw [jn_rows (b :: r)]
    simp
theorem sgn_free (k : Lay) (p : Sq) : sgn k p ≠ 10 := fun h => by
  rcases sgn_mem h with ⟨t, _, _, e⟩ | ⟨t, _, _, e⟩ | e
  · unfold signF at e; split at e <;> cases e
  · unfold signS at e; split at e <;> cases e
  · cases e
theorem row_free (k : Lay) (w r : Nat) : 10 ∉ rowM k w r := by
  unfold rowM
  intro h
  obtain ⟨c, _, e⟩ := List.mem_map.mp h
  exact sgn_free _ _ e
theorem split_ne (x y : Str) : Txt.split x y ≠ [] := by
  unfold Txt.split
  split
  · simp
  · split
    · simp
    · intro h
      have := congrArg List.length h
      rw [length_partsBetween] at this
      simp at this
theorem split_text {x : Str} {k : Lay} {h w : Nat} (e : x.cps.toList = textM k h w) : (Txt.split x ⟨#[10]⟩).map (fun p => p.cps.toList) = (List.range h).map (rowM k w) ++ [[]] := by
  refine jn_inj ?_ (by simp) ?_ ?_ ?_
  · intro q
    exact split_ne x ⟨#[10]⟩ (List.map_eq_nil_iff.mp q)
  · intro p hp
    obtain ⟨q, hq, rfl⟩ := List.mem_map.mp hp
    exact StrLaws.split_free x 10 q hq
  · intro q hq
    rcases List.mem_append.mp hq with hq | hq
    · obtain ⟨r, _, rfl⟩ := List.mem_map.mp hq
      exact row_free k w r
    · rw [List.mem_singleton.mp hq]; simp
  · rw [← join_jn, StrLaws.join_split, e, jn_rows, List.flatMap_map]
    rfl
end TF
namespace TF
open PySem PySem.Spec L2
open PyProof.Rows hiding St RelV
theorem up_sorted {F : List Sq} (up : F.Pairwise sqLt) : F.Pairwise fun x y => TSq.le x y = true := up.imp fun {x y} h => by
  unfold TyD.le
  rw [show TSq.f = sq from rfl, lx_sq]
  have : ¬ sqLt y x := fun h' => sqLt_irrefl _ (sqLt_trans h h')
  simp [this]
theorem sort_sqs {F : List Sq} (up : F.Pairwise sqLt) {l : Lay} (C : Cov F l) : TSq.sort (sqsOf l) = F :=
  TSq.uniq ((TSq.sort_perm _).trans C.pm) (TSq.sort_sorted _) (up_sorted up)
theorem sqs_len (l : Lay) : (sqsOf l).length = 2 * l.length := by
  induction l with
  | nil => rfl
  | cons a l ih => simp only [sqsOf, List.flatMap_cons, List.length_append, List.length_cons, List.length_nil] at *; omega
theorem PXT.cast {X : Cx} {ρ : Rho} {G : Gs} {e : Expr} {p q : Bool} (h : PXT X ρ G e p) (z : p = q) : PXT X ρ G e q := z ▸ h
end TF
namespace TF
open PySem PySem.Spec L2
open PyProof.Rows hiding St RelV
structure Fly (P : Program) (w : World) (outer : List Env) (H : Hp) (h : Heap) (H' : Hp) (h' : Heap) (ea : Addr) (cls : Value) : Prop where
  ex : ∃ a0 B, Heap.FlyingW B outer ea cls a0 h' ∧ HOk P w H' B ∧ (∀ b o, h.get? b = some o → H b = none → b ∉ frs outer → B.get? b = some o) ∧ ∀ b o, h.get? b = some o → b ∉ frs outer → ∃ o', B.get? b = some o'
  un : Un (frs outer) [] H H' h h'
  free : H' ea = none
theorem Fly.hok {P : Program} {w : World} {outer : List Env} {H H' : Hp} {h h' : Heap} {ea : Addr} {cls : Value} (f : Fly P w outer H h H' h' ea cls) : HOk P w H' h' := by
  obtain ⟨a0, B, fl, hb, _⟩ := f.ex
  exact hb.kept fl.1
noncomputable def CXV (P : Program) (w : World) : CXT := fun outer H s E e s' => ∃ ea cls H', e = .ref ea ∧ s'.os = s.os ∧ AllBare s'.gens ∧ Fly P w outer H s.heap H' s'.heap ea cls ∧ E cls none H'
theorem Fly.step {P : Program} {w : World} {outer : List Env} {H H' : Hp} {h h1 h2 : Heap} {ea : Addr} {cls : Value} (un : Un (frs outer) [] H H' h h1) (free : H' ea = none) {a0 : Value} {B : Heap} (hb : HOk P w H' B) (c1 : ∀ b o, h.get? b = some o → H b = none → b ∉ frs outer → B.get? b = some o) (c2 : ∀ b o, h.get? b = some o → b ∉ frs outer → ∃ o', B.get? b = some o')
    {outer0 : List Env} (ff : h1.FunFrames B outer0) (hsub : ∀ b ∈ frs outer, b ∈ frs outer0) (fl : Heap.FlyingW B outer ea cls a0 h2) (up : h1.UpToSlots h2) : Fly P w outer H h H' h2 ea cls := by
  refine ⟨⟨a0, B, fl, hb, c1, c2⟩, ⟨fun b o q n hb' _ => fl.1 b o (c1 b o q n hb'), fun b o q n hb' _ => ?_, un.free, fun b o q _ => ?_, un.tups, un.frzs, un.tbls⟩, free⟩
  · obtain ⟨sl, e⟩ := un.slot b o q n hb' (by simp)
    obtain ⟨_, o2, e2, hd⟩ := ff.mem (hsub b hb')
    rw [e] at e2
    cases e2
    obtain ⟨sl2, e3⟩ := up b _ e hd
    exact ⟨sl2, e3⟩
  · by_cases hf : b ∈ frs outer
    · obtain ⟨_, o2, e2, hd⟩ := ff.mem (hsub b hf)
      obtain ⟨sl2, e3⟩ := up b _ e2 hd
      exact ⟨_, e3⟩
    · obtain ⟨o', e⟩ := c2 b o q hf
      exact ⟨o', fl.1 b o' e⟩
section
variable {X : Cx} {pins : List (Addr × Obj)} {σ : St} {H : Hp} {s : Shared}
theorem frs_cons {env : Env} {l : List Env} {L : Addr} (h : env.frame = some L) : frs (env :: l) = L :: frs l := by
  unfold frs
  rw [List.filterMap_cons, h]
theorem fly_made {E : Value → Shared → Prop} (I : Inv X pins σ H s) (hx : X.ex = []) (hst : X.stack = X.env :: X.outer) (hfr : X.env.frame = some X.env.locals) {h2 : Heap} {ea : Addr} {cls : Value} {args : List Value} (hm : Heap.MadeExcOf s.heap h2 ea cls args) {tk : Nat} {Q : Unit → Shared → Prop}
    (hQ : ∀ h', Fly X.prog X.w X.outer X.H₀ X.s₀.heap H h' ea cls → Q () { s with heap := h', toks := tk }) : wpAny (model X.prog X.w) X.A (leaving X.env (.ref ea)) Q E { s with heap := h2, toks := tk } := by
  have stk := I.stack
  have free := I.stkFree
  have hfrm := I.ok.frames
  rw [hst] at stk hfrm free
  have hin : ∀ env ∈ (X.env :: X.outer), ∀ a, env.frame = some a → a ∈ (X.env :: X.outer).filterMap (·.frame) := fun env he b hb => List.mem_filterMap.mpr ⟨env, he, hb⟩
  have efs : (X.env :: X.outer).filterMap (·.frame) = X.env.locals :: frs X.outer := frs_cons hfr
  have neL : ∀ b o, X.s₀.heap.get? b = some o → b ≠ X.env.locals := fun b o e => Nat.ne_of_lt (Nat.lt_of_lt_of_le (Heap.lt_size e) I.ok.above)
  have nmem : ∀ b o, X.s₀.heap.get? b = some o → b ∉ frs X.outer → b ∉ (X.env :: X.outer).filterMap (·.frame) := fun b o e hb hm' => by
    rw [efs] at hm'
    rcases List.mem_cons.mp hm' with z | z
    · exact neL b o e z
    · exact hb z
  have hokB : HOk X.prog X.w H (PySem.W.hideAll s.heap ((X.env :: X.outer).filterMap (·.frame))) := fun b u q => by
    have nb : ∀ c v, H c = some v → c ∉ (X.env :: X.outer).filterMap (·.frame) := fun c v r hc => by
      have := free c hc
      rw [r] at this
      cases this
    refine (I.hok b u q).stay (fun c o hc r => ?_) (fun _ r => r) fun _ _ r => r
    rcases hc with rfl | hc
    · exact PySem.W.hideAll_get _ r (nb _ _ q)
    · exact PySem.W.hideAll_get _ r (nb _ _ hc)
  refine wpAny_leaves_madeW (s := { s with heap := h2, toks := tk }) hfrm hfr (base := PySem.W.hideAll s.heap ((X.env :: X.outer).filterMap (·.frame))) (fun b o q => PySem.W.of_hideAll _ q) (PySem.W.funFrames_hide stk hin) hm fun h' t fl tup nt up => ?_
  refine hQ h' ?_
  have un1 : Un X.fs [] X.H₀ H X.s₀.heap h2 := by
    have := I.base
    rw [hx] at this
    exact this.trans (Un.kept hm.keeps)
  have hfree : H ea = none := by
    cases q : H ea with
    | none => rfl
    | some u =>
      have hl := (I.hok ea u q)
      have : ∃ o, s.heap.get? ea = some o := by
        cases u with
        | lst xs => obtain ⟨_, _, _, _, e⟩ := hl; exact ⟨_, e⟩
        | tup xs => obtain ⟨_, _, _, o, e, _⟩ := hl; exact ⟨_, e⟩
        | dK kvs => obtain ⟨_, _, _, _, o, _, _, e, _⟩ := hl; exact ⟨_, e⟩
        | dT kvs => obtain ⟨_, _, _, _, o, _, _, e, _⟩ := hl; exact ⟨_, e⟩
        | set S n => obtain ⟨o, _, _, _, e, _⟩ := hl; exact ⟨_, e⟩
        | ins C dx fs => obtain ⟨_, _, _, e, _⟩ := hl; exact ⟨_, e⟩
        | own y => obtain ⟨_, e⟩ := hl; exact ⟨_, e⟩
        | xd fs => obtain ⟨_, ⟨_, _, _, e, _⟩, _⟩ := hl; exact ⟨_, e⟩
        | rng lo hi => obtain ⟨_, _, _, e⟩ := hl; exact ⟨_, e⟩
        | frz ob u => obtain ⟨e, _⟩ := hl; exact ⟨_, e⟩
        | tbl ps => exact ⟨_, (show s.heap.get? ea = some _ from hl)⟩
        | met f y => exact ⟨_, (show s.heap.get? ea = some _ from hl)⟩
        | ext φ => obtain ⟨_, ⟨o, e⟩, _⟩ := hl; exact ⟨_, e⟩
      obtain ⟨o, e⟩ := this
      rw [hm.new] at e
      cases e
  refine Fly.step un1 hfree hokB (fun b o q n hb => ?_) (fun b o q hb => ?_) (outer0 := X.env :: X.outer) ((PySem.W.funFrames_hide stk hin).of_keeps fun b o hb _ => ⟨o, hm.keeps b o hb, rfl⟩) (fun b hb => by rw [frs_cons hfr]; exact List.mem_cons_of_mem _ hb) fl up
  · have e := I.base.keep b o q n hb (by rw [hx]; simp)
    exact PySem.W.hideAll_get _ e (nmem b o q hb)
  · obtain ⟨o', e⟩ := I.base.there b o q (by rw [hx]; simp)
    exact ⟨o', PySem.W.hideAll_get _ e (nmem b o q hb)⟩
end
noncomputable def XPr (X : Cx) (pins : List (Addr × Obj)) (H : Hp) (G : Gs) (RX : Value → Gs → Prop) (e : Value) (s' : Shared) : Prop :=
  ∃ ea cls args σ' H' G' s1 h2 tk, e = .ref ea ∧ s' = { s1 with heap := h2, toks := tk } ∧ Inv X pins σ' H' s1 ∧ Heap.MadeExcOf s1.heap h2 ea cls args ∧ Ext H G H' G' ∧ GOk X.K H' G' ∧ RX cls G'
theorem XPr.trans {X : Cx} {pins : List (Addr × Obj)} {H H1 : Hp} {G G1 : Gs} {RX : Value → Gs → Prop} {e : Value} {s' : Shared} (x : Ext H G H1 G1) (h : XPr X pins H1 G1 RX e s') : XPr X pins H G RX e s' := by
  obtain ⟨ea, cls, args, σ', H', G', s1, h2, tk, a, b, c, d, f, g, r⟩ := h
  exact ⟨ea, cls, args, σ', H', G', s1, h2, tk, a, b, c, d, x.trans f, g, r⟩
noncomputable def WSsX (X : Cx) (ρ : Rho) (G : Gs) (st : List Stmt) (D : DE) (RX : Value → Gs → Prop) : Prop :=
  ∀ (pins : List (Addr × Obj)) (s : Shared) (σ : St) (H : Hp), Inv X pins σ H s → Stt X H σ ρ G → wpAny (model X.prog X.w) X.A (execs st X.env) (SP X pins (lift X H G D)) (XPr X pins H G RX) s
section
variable {X : Cx} {ρ : Rho} {G : Gs} {D : DE} {RX : Value → Gs → Prop} {st : Stmt} {rest : List Stmt} {c : Expr} {pos : Pos}
theorem wssx_of {l : List Stmt} (h : WSs X ρ G l D) (hx : X.xe = fun _ _ => False) : WSsX X ρ G l D RX := fun pins s σ H I S => by
  have := h pins s σ H I S
  rw [hx] at this
  exact wpAny_mono this (fun _ _ z => z) fun _ _ z => z.elim
theorem wssx_ifE {x : List Stmt} (hc : WT X ρ G c fun b G' => (b = true → WSsX X ρ G' x { D with nx := fun _ _ => False } RX) ∧ (b = false → WSsX X ρ G' rest D RX)) (hx : X.xe = fun _ _ => False) : WSsX X ρ G (.If c x [] pos :: rest) D RX := by
  intro pins s σ H I S
  have hc' := hc pins s σ H I S
  rw [hx] at hc'
  refine wpAny_execs_cons (wpAny_If (wpAny_mono hc' (fun b s1 ⟨H1, I1, G1, e1, o1, q1⟩ => ?_) fun _ _ z => z.elim))
  cases b with
  | true =>
    rw [if_pos rfl]
    refine wpAny_mono (q1.1 rfl pins s1 σ H1 I1 (S.ext e1 o1)) (fun f s2 z => ?_) fun _ _ z => XPr.trans e1 z
    cases f with
    | next => obtain ⟨_, _, _, _, _, _, _, q⟩ := z; exact q.elim
    | ret v => exact SP.trans (D := D) e1 z
    | brk => exact SP.trans (D := D) e1 z
    | cont => exact SP.trans (D := D) e1 z
  | false =>
    rw [if_neg Bool.false_ne_true]
    exact wpAny_execs_nil (wpAny_mono (q1.2 rfl pins s1 σ H1 I1 (S.ext e1 o1)) (fun _ _ z => SP.trans e1 z) fun _ _ z => XPr.trans e1 z)
theorem wssx_if {x : List Stmt} {b : Bool} (hc : PXT X ρ G c b) (ht : b = true → WSsX X ρ G x { D with nx := fun _ _ => False } RX) (hf : b = false → WSsX X ρ G rest D RX) (hx : X.xe = fun _ _ => False) : WSsX X ρ G (.If c x [] pos :: rest) D RX :=
  wssx_ifE (pxt_mono hc ⟨ht, hf⟩) hx
end
theorem own_obj {K : PySem.W.Frag} {h : Heap} {C : Addr} {bmB : List Value} {newId : String} (X : K.In h) (q : PySem.W.excIn K C bmB newId = true) :
    ∃ bm N nm qn bs hdct sn sub ab col dd k0 k1 k2 k3 k5 mN, h.get? C = some (excClassObj nm qn C N bs bm hdct sn sub ab col dd k0 k1 k2 k3 k5 newId) ∧ h.Ns N mN ∧ mN "__init__" = none ∧ OwnTail h bmB bm ∧ K.lookup C = some (excClassObj nm qn C N bs bm hdct sn sub ab col dd k0 k1 k2 k3 k5 newId) := by
  unfold PySem.W.excIn at q
  split at q
  · rename_i dd0 cd0 sl0 look0
    split at q
    · rename_i C0 bm0 a0 a1 a2 a3 nid a5 emro esl
      simp only [Bool.and_eq_true, beq_iff_eq, Bool.not_eq_true'] at q
      obtain ⟨⟨⟨⟨⟨rfl, rfl⟩, nodel⟩, tl⟩, nsok⟩, noinit⟩ := q
      obtain ⟨nm0, bs0, mro0, ns0, qn0, hd0, sn0, sub0, ab0, col0, del0⟩ := cd0
      dsimp only at emro nodel nsok noinit
      subst emro nodel
      obtain ⟨lst0⟩ := sl0
      simp only at esl
      subst esl
      exact ⟨bm0, ns0, nm0, qn0, bs0, hd0, sn0, sub0, ab0, col0, dd0, a0, a1, a2, a3, a5, _, X _ _ look0, .of_isNs (PySem.W.isNs_of_in X nsok), PySem.W.nsMap_none_of_in X nsok noinit, PySem.W.tail_of_in X tl, look0⟩
    · cases q
  · cases q
end TF
namespace TF
open PySem PySem.Spec L2
open PyProof.Rows hiding St RelV
section
variable {X : Cx} {ρ : Rho} {G : Gs} {D : DE} {RX : Value → Gs → Prop} {rest : List Stmt} {es : List Expr} {e₀ : Expr} {ds : List Dat} {pos np cpos : Pos} {x : Str} {C : Addr} {bmB : List Value} {newId initId Bn : String}
theorem wssx_raise (hx : X.xe = fun _ _ => False) (hcalm : X.calm = true) (hC : PySem.W.excIn X.K C bmB newId = true) (FB : ExcBaseFacts Bn newId initId bmB) (hm : X.mg x = some (.ref C)) (ha : PXs X ρ G (e₀ :: es) ds) (hl : ds.length ≤ 1000) (r : RX (.ref C) G) (hg : Gl X x := by rfl)
    (hdb : (x == ("__debug__" : Str)) = false := by decide) (he : starEach (e₀ :: es) X.env = (false, eval e₀ X.env) :: starEach es X.env := by rfl) (hpl : (backTo cpos (starEach es X.env)).any (·.1) = false := by rfl) : WSsX X ρ G (.Raise (some (.Call (.Name x np) (e₀ :: es) [] cpos)) none pos :: rest) D RX := by
  intro pins s σ H I S
  obtain ⟨bm, N, nm, qn, bs, hdct, sn, sub, ab, col, dd, k0, k1, k2, k3, k5, mN, oC, oN, oi, tl, _⟩ := own_obj I.mod.kin hC
  refine wpAny_execs_cons ?_
  refine wpAny_Raise_call_subT (C := C) (nm := nm) (q := qn) (N := N) (bs := bs) (bm := bm) (hdct := hdct) (sn := sn) (sub := sub) (ab := ab) (col := col) (dd := dd) (k0 := k0) (k1 := k1) (k2 := k2) (k3 := k3) (k5 := k5) FB (mN := mN) (tl.hasType FB.hasBase) (I.ok.hd hcalm)
    (by rw [he]; show (false || (backTo cpos (starEach es X.env)).any (·.1)) = false; rw [hpl]; rfl) oi (ld_glob I hg hm ⟨rfl, ?_⟩ hdb)
  have h1 := ha cpos pins s σ H I S
  rw [hx] at h1
  rw [he] at h1 ⊢
  refine Calls.evalArgs_plain (wpAny_mono h1 (fun us s2 ⟨vs, H2, I2, rv, d', G2, e2, o2, rep, q1, q2⟩ => ?_) fun _ _ z => z.elim)
  subst q1
  subst q2
  refine ⟨rfl, ?_, I2.bk _ _ oC, oN.keeps I2.bk, tl.keeps I2.bk, fun h' e hm' => ?_⟩
  · have : us.length ≤ 1000 := by rw [← rv.length, rep.length]; exact hl
    exact Nat.le_trans this (by rw [sizeLine_eq]; decide)
  · exact ⟨e, .ref C, us, σ, H2, G2, s2, h', s2.toks, rfl, rfl, I2, hm', e2, o2, r⟩
end
noncomputable abbrev SpX := List Dat → Gs → (Dat → Gs → Prop) → (Value → Gs → Prop) → Prop
noncomputable def liftX (K : PySem.W.Frag) (S : SpX) : Sp := fun vs H Q E => ∃ ds G R RX, GOk K H G ∧ RepL K (hid H G) ds vs ∧ S ds G R RX ∧ (∀ v H' d G', Ext H G H' G' → GOk K H' G' → Rep K (hid H' G') d v → R d G' → Q v H') ∧ ∀ cls H' G', Ext H G H' G' → GOk K H' G' → RX cls G' → E cls none H'
section
variable {P : Program} {w : World} {K : PySem.W.Frag} {mg : Str → Option Value} {base : Heap}
theorem fn_dx {x qual : Str} {st : Stmt} {f : Addr} {fd : FuncData} {N ps : List Str} {k : Nat} {S : SpX} (F : Fun K x qual st f fd) (Sc : FnScope N ps (defScope st)) (hlen : ∀ ds G R RX, S ds G R RX → ds.length = ps.length)
    (hb : ∀ (cdv : Value) (A : Around) (outer : List Env) (s : Shared) (H : Hp) (E : XK) (ds : List Dat) (G : Gs) (R : Dat → Gs → Prop) (RX : Value → Gs → Prop), Room k (A.deeper (envOfC qual (defScope st) s.heap.objs.size f cdv)) → S ds G R RX →
      WSsX (cxOf CX0 P w K mg base N qual (defScope st) f cdv A outer s H E).nox (startD N ds) G (defBody st) { nx := fun _ G' => R .non G', rt := R } RX) : FnOk P w K mg base (CXV P w) (k + 1) f fd ps (liftX K S) := by
  obtain ⟨oc, od, kV, doc, pm, an, cdv, ct, osl, rfl, lk, hcd⟩ := F.ex
  refine fn_of lk hcd Sc (fun vs H Q E h => ?_) (fun A outer s H vs Q E hr h => ?_)
  · obtain ⟨ds, G, R, RX, _, r, hS, _⟩ := h
    rw [r.length]; exact hlen ds G R RX hS
  · obtain ⟨ds, G, R, RX, o, r, hS, k1, k2⟩ := h
    refine ⟨fun D σ H1 => D = { nx := fun _ H' => Q .non H', rt := Q } ∧ σ = start N vs ∧ H1 = H, ?_, rfl, rfl, rfl⟩
    intro pins s1 σ H1 D I hq
    obtain ⟨rfl, rfl, rfl⟩ := hq
    have hw := hb cdv A outer s H1 E ds G R RX hr hS pins s1 (start N vs) H1 (I.wish fun _ _ => False) (stt_start o r)
    refine wpAny_mono hw (fun fl s2 z => ?_) fun e s2 z => ?_
    · refine SP.le (SP.unwish (X := cxOf (CXV P w) P w K mg base N qual (defScope st) f cdv A outer s H1 E) (E := fun _ _ => False) z) (fun σ' H' => ?_) (fun v H' => ?_) (fun σ' H' => ?_) fun σ' H' => ?_
      · rintro ⟨ρ', G', e', S', q⟩
        exact k1 .non H' .non G' e' S'.own rfl q
      · rintro ⟨d, G', e', o', r', q⟩
        exact k1 v H' d G' e' o' r' q
      · rintro ⟨_, _, _, _, q⟩; exact q
      · rintro ⟨_, _, _, _, q⟩; exact q
    · obtain ⟨ea, cls, args, σ', H', G', s3, h2, tk, rfl, rfl, I3, hm, ex, go, rx⟩ := z
      have J : Inv (cxOf (CXV P w) P w K mg base N qual (defScope st) f cdv A outer s H1 E) pins σ' H' s3 := Inv.unwish (E := fun _ _ => False) I3
      refine fly_made (X := cxOf (CXV P w) P w K mg base N qual (defScope st) f cdv A outer s H1 E) J rfl rfl rfl hm fun h' fly => ?_
      exact ⟨ea, cls, H', rfl, J.os, J.bare, fly, k2 cls H' G' ex go rx⟩
end
structure DfX (P : Program) (w : World) (K : PySem.W.Frag) (mg : Str → Option Value) (base : Heap) (x : Str) (ps : List Str) (k : Nat) (S : SpX) : Prop where
  ex : ∃ f fd, FnOk P w K mg base (CXV P w) k f fd ps (liftX K S) ∧ mg x = some (.ref f) ∧ PySem.W.keepIn K (.ref f) = true ∧ Binds K fd ps []
end TF
namespace TF
open PySem PySem.Spec L2
open PyProof.Rows hiding St RelV
section
variable {M : Model} {A : Around} {E : Value → Shared → Prop}
theorem ex_match {h : Heap} {g : Array GenState} {d : Drawn} {t : Nat} {os : OsState} {e C Dc : Addr} {oe : Obj} {Q : Bool → Shared → Prop}
    {nm q : Str} {N : Addr} {bs bm : List Value} {hdct : Bool} {sn : List Str} {sub : List Value} {ab : Bool} {col : Option Bool} {dd : Option Addr} {k0 k1 k2 k3 k5 : Option Value} {newId : String}
    {nm' q' : Str} {N' : Addr} {bs' bm' : List Value} {hdct' : Bool} {sn' : List Str} {sub' : List Value} {ab' : Bool} {col' : Option Bool} {dd' : Option Addr} {k0' k1' k2' k3' k5' : Option Value} {newId' : String}
    (hC : h.get? C = some (excClassObj nm q C N bs bm hdct sn sub ab col dd k0 k1 k2 k3 k5 newId)) (hD : h.get? Dc = some (excClassObj nm' q' Dc N' bs' bm' hdct' sn' sub' ab' col' dd' k0' k1' k2' k3' k5' newId'))
    (he : h.get? e = some oe) (hcls : oe.cls = .ref C) (hbase : bm'.contains (.type "BaseException") = true) (hq : Q ((Value.ref C :: bm).contains (.ref Dc)) ⟨h, g, d, t, os⟩) : wpAny M A (excMatches (.ref e) (.ref Dc)) Q E ⟨h, g, d, t, os⟩ := by
  have hcB : (Value.ref Dc :: bm').contains (.type "BaseException") = true := by rw [List.contains_cons, hbase, Bool.or_true]
  have f := tc_notTuple
  unfold excMatches
  repeat (first | (with_reducible refine wpAny_loadPart_at hD ?_) | (with_reducible refine wpAny_isSubtype_exc hD ?_; rw [hcB]) | wp_step)
  rw [hcls]
  refine wpAny_isSubtype_exc hC ?_
  cases hb : (Value.ref C :: bm).contains (.ref Dc) <;> (rw [hb] at hq; wp_walk; exact hq)
end
noncomputable def FXP (X : Cx) (pins : List (Addr × Obj)) (σ : St) (H : Hp) (G : Gs) (RX : Value → Gs → Prop) (e : Value) (s' : Shared) : Prop :=
  ∃ ea cls s1 H1 H' G', e = .ref ea ∧ Inv X pins σ H1 s1 ∧ s'.os = s1.os ∧ AllBare s'.gens ∧ Fly X.prog X.w X.stack H1 s1.heap H' s'.heap ea cls ∧ Ext H G H' G' ∧ GOk X.K H' G' ∧ RX cls G'
noncomputable def WEX (X : Cx) (ρ : Rho) (G : Gs) (e : Expr) (Q : Dat → Gs → Prop) (RX : Value → Gs → Prop) : Prop :=
  ∀ (pins : List (Addr × Obj)) (s : Shared) (σ : St) (H : Hp), Inv X pins σ H s → Stt X H σ ρ G → wpAny (model X.prog X.w) X.A (eval e X.env) (EP X pins σ (Po X H G Q)) (FXP X pins σ H G RX) s
noncomputable def WSsF (X : Cx) (ρ : Rho) (G : Gs) (st : List Stmt) (D : DE) (RX : Value → Gs → Prop) : Prop :=
  ∀ (pins : List (Addr × Obj)) (s : Shared) (σ : St) (H : Hp), Inv X pins σ H s → Stt X H σ ρ G → wpAny (model X.prog X.w) X.A (execs st X.env) (SP X pins (lift X H G D)) (FXP X pins σ H G RX) s
section
variable {X : Cx} {ρ : Rho} {G : Gs} {e : Expr} {es : List Expr} {ds : List Dat} {pos p : Pos} {S : SpX} {k : Nat} {ps : List Str} {x : Str} {Q : Dat → Gs → Prop} {RX : Value → Gs → Prop} {D : DE} {rest : List Stmt}
theorem wex_df (hx : X.xe = fun _ _ => False) (F : DfX X.prog X.w X.K X.mg X.base x ps k S) (hr : Room k X.A) (ha : PXs X ρ G (e :: es) ds) (hS : S ds G Q RX) (hg : Gl X x := by rfl)
    (hdb : (x == ("__debug__" : Str)) = false := by decide) (he : starEach (e :: es) X.env = (false, eval e X.env) :: starEach es X.env := by rfl) (hpl : (backTo pos (starEach es X.env)).any (·.1) = false := by rfl) : WEX X ρ G (.Call (.Name x p) (e :: es) [] pos) Q RX := by
  obtain ⟨f, fd, F, hm, hk, hb⟩ := F.ex
  intro pins s σ H I S0
  refine wpAny_Call_Name_kw (ld_glob I hg hm ?_ hdb)
  have h1 := ha pos pins s σ H I S0
  rw [hx] at h1
  refine PySem.W.callWith_K (h₀ := X.base) I.ok.mod.kin hk (wpAny_mono h1 (fun us s1 ⟨vs, H1, I1, rv, d', G1, e1, o1, rep, q1, q2⟩ => ⟨I1.kIn, ?_⟩) fun _ _ z => z.elim) he hpl
  subst q1
  subst q2
  have hsp : liftX X.K S vs H1 (Po X H G1 Q) (fun cls dx H' => ∃ G', Ext H1 G1 H' G' ∧ GOk X.K H' G' ∧ RX cls G') := ⟨d', G1, Q, RX, o1, rep, hS, fun v H' d G' e' o' r' q' => ⟨d, G', e1.trans e', o', r', q'⟩, fun cls H' G' e' o' q' => ⟨G', e', o', q'⟩⟩
  have hl : us.length = ps.length := by rw [← rv.length]; exact F.len _ _ _ _ hsp
  refine wpAny_call (codeAny_mono (F.run X.A X.stack s1 H1 ⟨us, []⟩ us vs _ _ hr I1.env0 (by have := hb s1 us I1.kIn (by rw [List.append_nil]; exact hl); rw [List.append_nil] at this; exact this) rv hsp) fun r s' hq => ?_)
  cases r with
  | error er =>
    obtain ⟨ea, cls, H', rfl, h3, h4, fly, G', e', o', q'⟩ := hq
    exact ⟨ea, cls, s1, H1, H', G', rfl, I1, h3, h4, fly, e1.trans e', o', q'⟩
  | ok fl =>
    cases fl with
    | ret u => exact I1.after hq
    | next => exact False.elim hq
    | brk => exact False.elim hq
    | cont => exact False.elim hq
noncomputable abbrev Cx.mk' (X : Cx) (ea : Addr) : Cx := { X with A := X.A.mark (some (.ref ea)), calm := false }
end
section
variable {X : Cx} {pins : List (Addr × Obj)} {σ : St} {H : Hp} {s : Shared} {ea : Addr}
theorem inv_mark (I : Inv X pins σ H s) (ea : Addr) : Inv (Cx.mk' X ea) pins σ H s :=
  ⟨⟨I.ok.mod, I.ok.kind, I.ok.glob, I.ok.blt, I.ok.above, I.ok.inj, I.ok.has, I.ok.cab, fun h => absurd h Bool.false_ne_true, I.ok.frames, I.ok.stk, I.ok.exf, I.ok.bs, I.ok.bsz, I.ok.noex, I.ok.exfs, I.ok.funs, I.ok.frf⟩, I.os, I.bare, I.base, I.loc, I.cell, I.free, I.freeC, I.pin, I.hok, I.len⟩
theorem inv_unmark (hd : X.Ok) (I : Inv (Cx.mk' X ea) pins σ H s) : Inv X pins σ H s :=
  ⟨hd, I.os, I.bare, I.base, I.loc, I.cell, I.free, I.freeC, I.pin, I.hok, I.len⟩
theorem sp_unmark {D : Ends} {f : Flow} {s' : Shared} (hd : X.Ok) (h : SP (Cx.mk' X ea) pins D f s') : SP X pins D f s' := by
  cases f with
  | next => obtain ⟨σ', H', I, q⟩ := h; exact ⟨σ', H', inv_unmark hd I, q⟩
  | brk => obtain ⟨σ', H', I, q⟩ := h; exact ⟨σ', H', inv_unmark hd I, q⟩
  | cont => obtain ⟨σ', H', I, q⟩ := h; exact ⟨σ', H', inv_unmark hd I, q⟩
  | ret u => obtain ⟨v, σ', H', I, r, q⟩ := h; exact ⟨v, σ', H', inv_unmark hd I, r, q⟩
end
theorem sp_lift {X Y Z : Cx} (hK : Y.K = Z.K) {pins : List (Addr × Obj)} {H : Hp} {G : Gs} {D : DE} {f : Flow} {s' : Shared} (h : SP X pins (lift Y H G D) f s') : SP X pins (lift Z H G D) f s' := by
  have cv : ∀ {q : Rho → Gs → Prop} {σ' : St} {H' : Hp}, lft Y H G q σ' H' → lft Z H G q σ' H' := fun ⟨ρ', G', e', S', q⟩ => ⟨ρ', G', e', ⟨fun i d h => by obtain ⟨v, h1, h2⟩ := S'.env i d h; exact ⟨v, h1, by rw [← hK]; exact h2⟩, S'.len, by rw [← hK]; exact S'.own⟩, q⟩
  refine SP.le h (fun _ _ z => cv z) (fun v H' ⟨d, G', e', o', r', q⟩ => ⟨d, G', e', by rw [← hK]; exact o', by rw [← hK]; exact r', q⟩) (fun _ _ z => cv z) fun _ _ z => cv z
noncomputable def underIn (K : PySem.W.Frag) (C Dc : Addr) : Bool := match K.lookup C with
  | some ⟨_, _, .cls cd, _⟩ => cd.mro.contains (.ref Dc)
  | _ => false
theorem under_of {K : PySem.W.Frag} {C Dc N : Addr} {nm q : Str} {bs bm : List Value} {hdct : Bool} {sn : List Str} {sub : List Value} {ab : Bool} {col : Option Bool} {dd : Option Addr} {k0 k1 k2 k3 k5 : Option Value} {newId : String}
    (h : K.lookup C = some (excClassObj nm q C N bs bm hdct sn sub ab col dd k0 k1 k2 k3 k5 newId)) (u : underIn K C Dc = true) : (Value.ref C :: bm).contains (.ref Dc) = true := by
  unfold underIn at u
  rw [h] at u
  exact u
section
variable {X : Cx} {ρ : Rho} {G : Gs} {RX : Value → Gs → Prop} {D : DE} {rest body suite : List Stmt} {b₀ : Stmt} {pos np hpos : Pos} {cx : Str}
theorem caught {pins : List (Addr × Obj)} {σ : St} {H1 H' : Hp} {s1 s' : Shared} {ea C Dc : Addr} {bmB bmB' : List Value} {newId newId' initId' Bn' : String} {name : Option Str} {Q : Flow → Shared → Prop} {E : Value → Shared → Prop}
    (hst : X.stack = X.env :: X.outer) (hfr : X.env.frame = some X.env.locals) (I1 : Inv X pins σ H1 s1) (hos : s'.os = s1.os) (hbare : AllBare s'.gens) (fly : Fly X.prog X.w X.stack H1 s1.heap H' s'.heap ea (.ref C))
    (hC : PySem.W.excIn X.K C bmB newId = true) (hD : PySem.W.excIn X.K Dc bmB' newId' = true) (FD : ExcBaseFacts Bn' newId' initId' bmB') (hu : underIn X.K C Dc = true) (hm : X.mg cx = some (.ref Dc)) (hg : Gl X cx) (hdb : (cx == ("__debug__" : Str)) = false)
    (k : ∀ h5, Inv (Cx.mk' X ea) pins σ H' { s' with heap := h5 } → (∀ (A' : Around) (E' : Value → Shared → Prop) (Q' : Unit → Shared → Prop), (∀ h6, Inv (Cx.mk' X ea) pins σ H' { s' with heap := h6 } → (∃ oe vs, h6.get? ea = some oe ∧ oe.cls = .ref C ∧ oe.data = .fields vs) → H' ea = none → Q' () { s' with heap := h6 }) → wpAny (model X.prog X.w) A' (setFlight (.ref ea) none) Q' E' { s' with heap := h5 }) →
      codeAny (model X.prog X.w) (X.A.mark (some (.ref ea))) (.handlers (.ref ea) [.ExceptHandler none name (b₀ :: suite) hpos] X.env) (fun r s₂ => match r with
          | .ok f => (match name with
            | none => Q f s₂
            | some n => wpAny (model X.prog X.w) X.A (do bindName X.env n .none; unbindBehindTheSuite X.env n hpos) (fun _ s₃ => Q f s₃) E s₂)
          | .error y => cameBackBy (model X.prog X.w) X.A X.env E y s₂) { s' with heap := h5 }) :
    wpAny (model X.prog X.w) X.A (noteFrame (.ref ea) X.env) (fun _ s₂ => wpAny (model X.prog X.w) X.A (setFlight (.ref ea) none) (fun _ s₃ => wpAny (model X.prog X.w) X.A (handleBy (.ref ea) X.env [.ExceptHandler (some (.Name cx np)) name (b₀ :: suite) hpos]) Q E s₃) E s₂) E s' := by
  obtain ⟨a0, B, fl, hB, c1, c2⟩ := fly.ex
  have hfrm := I1.ok.frames
  rw [hst] at fl hfrm
  refine wpAny_looks_onW hfrm hfr fl fun h4 held up4 => wpAny_landsW held fun h5 fl5 up5 => ?_
  have fly5 : Fly X.prog X.w X.stack H1 s1.heap H' h5 ea (.ref C) := by
    refine Fly.step fly.un fly.free hB c1 c2 (outer0 := X.stack) (by rw [hst]; exact fl.2.2.1) (fun _ z => z) (by rw [hst]; exact fl5) (up4.trans up5)
  have I5 : Inv X pins σ H' { s' with heap := h5 } := I1.call' (s' := { s' with heap := h5 }) hos fly5.un fly5.hok hbare (by simp)
  obtain ⟨bm, N, nm, qn, bs, hdct, sn, sub, ab, col, dd, k0, k1, k2, k3, k5, mN, oC, oN, oi, tl, lC⟩ := own_obj I1.mod.kin hC
  obtain ⟨bm', N', nm', qn', bs', hdct', sn', sub', ab', col', dd', k0', k1', k2', k3', k5', mN', oD, _, _, tl', lD⟩ := own_obj I1.mod.kin hD
  obtain ⟨oe, hoe, hoc⟩ := fl5.there
  refine wpAny_handleBy_cons (codeAny_handlers_test (ld_glob (X := Cx.mk' X ea) (inv_mark I5 ea) hg hm ?_ hdb)) (by intro z; cases z)
  have hq := under_of lC hu
  refine ex_match (I5.bk _ _ oC) (I5.bk _ _ oD) hoe hoc (tl'.hasType FD.hasBase) ?_
  rw [hq]
  refine k h5 (inv_mark I5 ea) fun A' E' Q' hQ => lands_againW (s := { s' with heap := h5 }) fl5 fun h6 fl6 up6 => ?_
  have fly6 : Fly X.prog X.w X.stack H1 s1.heap H' h6 ea (.ref C) := Fly.step fly5.un fly5.free hB c1 c2 (outer0 := X.stack) (by rw [hst]; exact fl5.2.2.1) (fun _ z => z) (by rw [hst]; exact fl6) up6
  have I6 : Inv X pins σ H' { s' with heap := h6 } := I1.call' (s' := { s' with heap := h6 }) hos fly6.un fly6.hok hbare (by simp)
  obtain ⟨oe6, vs6, z1, z2, z3, _⟩ := fl6.first
  exact hQ h6 (inv_mark I6 ea) ⟨oe6, vs6, z1, z2, z3⟩ fly6.free
theorem wss_try0 {Dc : Addr} {bmB' : List Value} {newId' initId' Bn' : String} (hst : X.stack = X.env :: X.outer) (hfr : X.env.frame = some X.env.locals) (hb : WSsF X ρ G body { D with nx := fun ρ' G' => WSs X ρ' G' rest D } RX)
    (hD : PySem.W.excIn X.K Dc bmB' newId' = true) (FD : ExcBaseFacts Bn' newId' initId' bmB') (hm : X.mg cx = some (.ref Dc))
    (hs : ∀ cls G', RX cls G' → ∃ C bmB newId, cls = .ref C ∧ PySem.W.excIn X.K C bmB newId = true ∧ underIn X.K C Dc = true ∧ ∀ ea, WSs (Cx.mk' X ea).nox ρ G' (b₀ :: suite) { D with nx := fun ρ' G' => WSs X ρ' G' rest D })
    (hg : Gl X cx := by rfl) (hdb : (cx == ("__debug__" : Str)) = false := by decide) : WSs X ρ G (.Try body [.ExceptHandler (some (.Name cx np)) none (b₀ :: suite) hpos] [] [] pos :: rest) D := wss_cons fun pins s σ H I S => by
  refine wpAny_Try_except (wpAny_mono (hb pins s σ H I S) (fun f s1 z => ?_) fun e s' z => ?_)
  · cases f with
    | next => exact wpAny_execs_nil z
    | ret v => exact z
    | brk => exact z
    | cont => exact z
  · obtain ⟨ea, cls, s1, H1, H', G', rfl, I1, hos, hbare, fly, ex, go, rx⟩ := z
    obtain ⟨C, bmB, newId, rfl, hC, hu, hw⟩ := hs cls G' rx
    refine caught hst hfr I1 hos hbare fly hC hD FD hu hm hg hdb fun h5 I5 land => ?_
    refine codeAny_handlers_suite (land _ _ _ fun h6 I6 _ _ => ?_)
    have S5 := S.ext ex go
    have S6 : Stt (Cx.mk' X ea).nox H' σ ρ G' := ⟨S5.env, S5.len, S5.own⟩
    refine wpAny_mono (hw ea pins { s' with heap := h6 } σ H' (I6.wish _) S6) (fun f s2 z => ?_) fun _ _ z => z.elim
    have z1 : SP (Cx.mk' X ea) pins (lift X H' G' { D with nx := fun ρ' G' => WSs X ρ' G' rest D }) f s2 := sp_lift (X := Cx.mk' X ea) (Y := (Cx.mk' X ea).nox) (Z := X) rfl (SP.unwish (X := Cx.mk' X ea) (E := fun _ _ => False) z)
    exact SP.trans ex (sp_unmark I.ok z1)
end
end TF
namespace TF
open PySem PySem.Spec L2
open PyProof.Rows hiding St RelV
noncomputable abbrev Cx.sx (X : Cx) (ea : Addr) (oe : Obj) : Cx := { X with A := X.A.mark (some (.ref ea)), calm := false, pn := (ea, oe) :: X.pn, xe := fun _ _ => False }
end TF
namespace TF
open PySem PySem.Spec L2
open PyProof.Rows hiding St RelV
section
variable {X : Cx} {ρ : Rho} {G : Gs} {e : Expr} {n : Int} {a b : Str} {k1 k2 : Nat} {p1 p2 p3 pos : Pos}
theorem fs_int {pins : List (Addr × Obj)} {s : Shared} {σ : St} {H : Hp} {Q : Value → Shared → Prop} (hx : PX X ρ G e (.int n)) (hn : n.natAbs.log2 < 1920) (I : Inv X pins σ H s) (S : Stt X H σ ρ G) (h : ∀ s1 H1 t, Inv X pins σ H1 s1 → Ext H G H1 G → GOk X.K H1 G → Q (.str (toString n) t) s1) :
    wpAny (model X.prog X.w) X.A (eval (.FormattedValue e (-1) none p2) X.env) Q X.xe s := by
  refine wpAny_FormattedValue_plain (thn (hx pins s σ H I S) fun u s1 ⟨x, H1, I1, r1, d, G1, e1, o1, rx, q1, q2⟩ => ?_)
  subst q1; subst q2
  rw [Rep] at rx
  subst rx
  obtain ⟨t, rfl⟩ := r1
  exact wpAny_formatField_int hn (h _ H1 _ (I1.tok _) e1 o1)
theorem fs_str {c : Str} {pins : List (Addr × Obj)} {s : Shared} {σ : St} {H : Hp} {Q : Value → Shared → Prop} (I : Inv X pins σ H s) (S : Stt X H σ ρ G) (h : ∀ s1 H1 t, Inv X pins σ H1 s1 → Ext H G H1 G → GOk X.K H1 G → Q (.str c t) s1) :
    wpAny (model X.prog X.w) X.A (eval (.Constant (.str c) k1 p1) X.env) Q X.xe s :=
  thn (px_str (X := X) (ρ := ρ) (G := G) pins s σ H I S) fun u s1 ⟨x, H1, I1, r1, d, G1, e1, o1, rx, q1, q2⟩ => by
    subst q1; subst q2
    rw [Rep] at rx
    subst rx
    obtain ⟨t, rfl⟩ := r1
    exact h s1 H1 t I1 e1 o1
theorem px_fs3 (hx : PX X ρ G e (.int n)) (hn : n.natAbs.log2 < 1920) (h1 : (Str.empty ++ a).length ≤ sizeLine) (h2 : (Str.empty ++ a ++ Str.ofString (toString n)).length ≤ sizeLine) (h3 : (Str.empty ++ a ++ Str.ofString (toString n) ++ b).length ≤ sizeLine)
    (he : evalEach [.Constant (.str a) k1 p1, .FormattedValue e (-1) none p2, .Constant (.str b) k2 p3] X.env = [eval (.Constant (.str a) k1 p1) X.env, eval (.FormattedValue e (-1) none p2) X.env, eval (.Constant (.str b) k2 p3) X.env] := by rfl) :
    PX X ρ G (.JoinedStr [.Constant (.str a) k1 p1, .FormattedValue e (-1) none p2, .Constant (.str b) k2 p3] pos) (.str (Str.empty ++ a ++ Str.ofString (toString n) ++ b)) := by
  intro pins s σ H I S
  refine wpAny_JoinedStr ?_
  rw [he]
  refine fs_str I S fun s1 H1 t1 I1 e1 o1 => ⟨a, t1, rfl, h1, ?_⟩
  refine fs_int hx hn I1 (S.ext e1 o1) fun s2 H2 t2 I2 e2 o2 => ⟨_, t2, rfl, h2, ?_⟩
  refine fs_str I2 ((S.ext e1 o1).ext e2 o2) fun s3 H3 t3 I3 e3 o3 => ⟨b, t3, rfl, h3, h3, ?_⟩
  exact ⟨.str _, H3, I3.tok _, ⟨_, rfl⟩, _, G, e1.trans (e2.trans e3), o3, by rw [Rep], rfl, rfl⟩
theorem px_fs2 (hx : PX X ρ G e (.int n)) (hn : n.natAbs.log2 < 1920) (h1 : (Str.empty ++ a).length ≤ sizeLine) (h2 : (Str.empty ++ a ++ Str.ofString (toString n)).length ≤ sizeLine)
    (he : evalEach [.Constant (.str a) k1 p1, .FormattedValue e (-1) none p2] X.env = [eval (.Constant (.str a) k1 p1) X.env, eval (.FormattedValue e (-1) none p2) X.env] := by rfl) :
    PX X ρ G (.JoinedStr [.Constant (.str a) k1 p1, .FormattedValue e (-1) none p2] pos) (.str (Str.empty ++ a ++ Str.ofString (toString n))) := by
  intro pins s σ H I S
  refine wpAny_JoinedStr ?_
  rw [he]
  refine fs_str I S fun s1 H1 t1 I1 e1 o1 => ⟨a, t1, rfl, h1, ?_⟩
  refine fs_int hx hn I1 (S.ext e1 o1) fun s2 H2 t2 I2 e2 o2 => ⟨_, t2, rfl, h2, h2, ?_⟩
  exact ⟨.str _, H2, I2.tok _, ⟨_, rfl⟩, _, G, e1.trans e2, o2, by rw [Rep], rfl, rfl⟩
end
end TF
namespace TF
open PySem PySem.Spec L2
open PyProof.Rows hiding St RelV
noncomputable instance (p q : Sq) : Decidable (sqLt p q) := by unfold sqLt; exact inferInstance
section
variable {X : Cx} {ρ : Rho} {G : Gs} {e a b c : Expr} {d d1 d2 : Dat} {l : List Dat} {pos : Pos} {x y : Sq}
theorem all_range : ∀ (bs : List Bool), ((List.range bs.length).all fun i => bs.getD i true) = bs.all id
  | [] => rfl
  | b :: bs => by
    rw [List.length_cons, List.range_succ_eq_map, List.all_cons, List.all_map, List.all_cons, ← all_range bs]
    rfl
theorem call_allL (hc : X.calm = true) : CallR X (.builtin "all") (fun xs H Q => ∃ (p : Addr) (bs : List Bool), xs = [.ref p] ∧ SqL X.K H p (bs.map V.bl) ∧ Q (.bl (bs.all id)) H) := by
  intro pins s σ H xs us Q I r h
  obtain ⟨p, bs, rfl, hq, q⟩ := h
  obtain ⟨u, rfl, rx⟩ := vals1 r
  cases rx
  obtain ⟨its, rv, pl, hz⟩ := I.list hq
  have hl := pl.isList
  have hlt := Heap.lt_size (hl.choose_spec.1)
  have ne : p ≠ s.heap.objs.size := Nat.ne_of_lt hlt
  refine call_all_walk (wpAny_pyIter_list hl ?_)
  refine ⟨_, _, _, _, _, _, fun i => bs.getD i true, rfl, Walks.list (A := X.A.in1) (I.ok.hd hc) _ p ne its.toArray, ⟨⟨_, Heap.get?_push_size _ rfl, rfl, rfl⟩, hl.push _⟩, ?_, fun h' tk hk => ?_⟩
  · intro i v s' Q' E' hP hQ
    have h1 : its[i]? = some v := by simpa using hP
    have hi : i < its.length := (List.getElem?_eq_some_iff.mp h1).1
    have hl2 := rv.length
    rw [List.length_map] at hl2
    obtain ⟨x, hx⟩ : ∃ x, bs[i]? = some x := ⟨bs[i]'(by omega), List.getElem?_eq_getElem (by omega)⟩
    have h2 : (bs.map V.bl)[i]? = some (V.bl x) := by rw [List.getElem?_map, hx]; rfl
    obtain ⟨v', g1, g2⟩ := rv.get h2
    rw [h1] at g1
    cases g1
    cases g2
    have hQ : Q' (bs.getD i true) s' := hQ
    rw [List.getD_eq_getElem?_getD, hx] at hQ
    exact wpAny_truthy_bool hQ
  · have hn : its.toArray.size = bs.length := by have := rv.length; rw [List.length_map] at this; rw [List.size_toArray, ← this]
    rw [hn, all_range]
    refine ⟨.bl _, H, I.kept (fun b o e => hk b o (fun hm => ?_) (Heap.get?_push_of_some _ e)), rfl, q⟩
    have h1 := Heap.lt_size e
    rw [List.mem_singleton.mp hm] at h1
    exact Nat.lt_irrefl _ h1
theorem repL_bl {K : PySem.W.Frag} {H : Hp} : ∀ {bs : List Bool} {vs : List V}, RepL K H (bs.map .bl) vs → vs = bs.map V.bl
  | [], vs, r => by
    have := r.length
    exact List.eq_nil_of_length_eq_zero (by simpa using this)
  | b :: bs, vs, r => by
    rw [List.map_cons, RepL] at r
    obtain ⟨v, r', rfl, r1, r2⟩ := r
    rw [Rep] at r1
    rw [r1, repL_bl r2]
    rfl
theorem px_all {bs : List Bool} {pp : Pos} (hc : X.calm = true) (hm : X.mg "all" = none) (ha : PX X ρ G a (.lst (bs.map .bl))) (hg : Gl X "all" := by rfl) (he : starEach [a] X.env = (false, eval a X.env) :: starEach [] X.env := by rfl) : PX X ρ G (.Call (.Name "all" pp) [a] [] pos) (.bl (bs.all id)) :=
  px_call1 (call_allL hc) hg hm (by decide +kernel) ha (fun H x Q o r k => by
    rw [Rep] at r
    obtain ⟨q, vs, e, h1, r1⟩ := r
    exact ⟨q, bs, by rw [e], by rw [← repL_bl r1]; exact SqL.of (hid_le _ _ h1), k _ _ (po1' o rfl)⟩) (he := he)
end
end TF
namespace TF
open PySem PySem.Spec L2
open PyProof.Rows hiding St RelV
noncomputable def knownD : Dat → Bool
  | .tup l => l.all fun d => (tyS d).isSome
  | d => (tyS d).isSome
noncomputable def pairB : Dat → Bool
  | .tup [_, _] => true
  | _ => false
noncomputable def placeB : Dat → Bool
  | .tup [.int _, .int _] => true
  | _ => false
noncomputable def spNumber : SpD := fun ds G R => ∃ (d : Dat) (t : String), ds = [d] ∧ tyS d = some t ∧ R (.bl (t == "int")) G
noncomputable def spPairB : SpD := fun ds G R => ∃ (d : Dat) (t : String), ds = [d] ∧ tyS d = some t ∧ R (.bl (pairB d)) G
noncomputable def spPlace : SpD := fun ds G R => ∃ d : Dat, ds = [d] ∧ knownD d = true ∧ R (.bl (placeB d)) G
theorem known_ty {d : Dat} (h : knownD d = true) : ∃ t, tyS d = some t := by
  cases d <;> first | exact ⟨_, rfl⟩ | cases h
theorem place_sq {d : Dat} (h : placeB d = true) : ∃ q, d = sq q := by
  unfold placeB at h
  split at h
  · rename_i a b; exact ⟨(a, b), rfl⟩
  · cases h
theorem isS_num (t : String) : (isS t "int" && !isS t "bool") = (t == "int") := by
  unfold isS
  by_cases h : t = "int"
  · subst h; rfl
  · by_cases h2 : t = "bool"
    · subst h2; rfl
    · have e1 : (t == "int") = false := by simpa using h
      have e2 : (t == "bool") = false := by simpa using h2
      rw [e1, e2]; rfl
theorem isS_tup (t : String) : isS t "tuple" = (t == "tuple") := by
  unfold isS
  rw [show (("tuple" : String) == "int") = false from rfl, Bool.and_false, Bool.or_false]
theorem we_of_wex {X : Cx} {ρ : Rho} {G : Gs} {e : Expr} {Q : Dat → Gs → Prop} (h : WEX X ρ G e Q fun _ _ => False) : WE X ρ G e Q := fun pins s σ H I S =>
  wpAny_mono (h pins s σ H I S) (fun _ _ z => z) fun _ _ ⟨_, _, _, _, _, _, _, _, _, _, _, _, _, z⟩ => z.elim
end TF
namespace TF
open PySem PySem.Spec L2
open PyProof.Rows hiding St RelV
structure Zt (h : Heap) (z TI TO i1 i2 l1 l2 : Addr) (f0 : Value) (k : Nat) (xs ys : Array Value) : Prop where
  hz : IsZip h z TI TO f0
  hI : IsPair h TI (.ref i1) (.ref i2)
  hO : ∃ a b, IsPair h TO a b
  h1 : h.IsTupleIter i1 l1 k
  h2 : h.IsTupleIter i2 l2 k
  t1 : h.IsTuple l1 xs
  t2 : h.IsTuple l2 ys
section
variable {prog : Program} {w : World} {A : Around} {E : Value → Shared → Prop} {s : Shared} {z TI TO i1 i2 l1 l2 : Addr} {k : Nat} {xs ys : Array Value} {x y : Value}
theorem zipT_start {Q : Fin → Shared → Prop} (D : ZipApart z TI TO i1 i2 l1 l2) (Z : Zt s.heap z TI TO i1 i2 l1 l2 .none k xs ys)
    (go : ∀ h1, IsZip h1 z TI TO .ellipsis → Heap.SameBut z s.heap h1 → (match xs[k]? with
      | none => ∀ h2 e, Heap.ExtBut i1 h1 h2 → (∃ o, h2.get? e = some o ∧ o.cls = .type "StopIteration") → wpAny (model prog w) A (setField (.ref z) 0 .none) (fun _ s' => E (.ref e) s') E { s with heap := h2 }
      | some x => ∀ h2 h3 b, h2.IsTupleIter i1 l1 (k + 1) → Heap.SameBut i1 h1 h2 → IsPair h3 TO x b → Heap.SameBut TO h2 h3 → (match ys[k]? with
        | none => ∀ h4 e, Heap.ExtBut i2 h3 h4 → (∃ o, h4.get? e = some o ∧ o.cls = .type "StopIteration") → wpAny (model prog w) A (setField (.ref z) 0 .none) (fun _ s' => E (.ref e) s') E { s with heap := h4 }
        | some y => ∀ h4 h5, h4.IsTupleIter i2 l2 (k + 1) → Heap.SameBut i2 h3 h4 → IsPair h5 TO x y → Heap.SameBut TO h4 h5 →
            wpAny (model prog w) A (do let result ← newTuple [x, y]; Builtin.SmallTypes.ownedTupleHandOut (.ref z) result; ret result) Q E { s with heap := h5 })))
    (hh : A.handled = none) : wpAny (model prog w) A (Builtin.«zip.__next__» ⟨[.ref z], []⟩) Q E s := by
  obtain ⟨a, b, hO⟩ := Z.hO
  have hz := Z.hz
  show wpAny _ _ (field (.ref z) 2 >>= _) _ _ _
  refine wpAny_bind (wpAny_field hz rfl (x := .bool false) rfl ?_)
  show wpAny _ _ (field (.ref z) 3 >>= _) _ _ _
  refine wpAny_bind (wpAny_field hz rfl (x := .ref TI) rfl (wpAny_bind (wpAny_seqItems Z.hI rfl ?_)))
  show wpAny _ _ (Builtin.SmallTypes.ownedTupleIsFree (.ref z) >>= _) _ _ _
  refine wpAny_bind ?_
  unfold Builtin.SmallTypes.ownedTupleIsFree
  refine wpAny_bind (wpAny_field hz rfl (x := .none) rfl (wpAny_pure ?_))
  simp only [if_true]
  refine wpAny_bind (wpAny_rule (wpAny_bind (wpAny_field hz rfl (x := .ref TO) rfl (wpAny_bind (wpAny_setField_rec hz (by simp) fun h1 hz1 s1 => wpAny_bind ?_)))))
  replace hz1 : IsZip h1 z TI TO .ellipsis := hz1
  have G := go h1 hz1 s1
  have a1 : h1.IsTupleIter i1 l1 k := Z.h1.at fun o e => s1.extBut _ o D.i1z e
  have a2 : h1.IsTuple l1 xs := Z.t1.extBut s1.extBut D.l1z
  have a3 : IsPair h1 TO a b := s1.extBut _ _ D.TOz hO
  simp only [List.zipIdx_cons, List.zipIdx_nil, List.forIn_cons, List.forIn_nil]
  refine wpAny_bind (wpAny_bind (wpAny_onRaise ?_))
  show wpAny _ _ (Builtin.SmallTypes.nextOf (.ref i1) >>= _) _ _ _
  cases hx : xs[k]? with
  | none =>
    rw [hx] at G
    exact wpAny_bind (nextT_end hh a1 a2 hx fun h2 e s2 he => G h2 e s2 he)
  | some x =>
    rw [hx] at G
    refine wpAny_bind (nextT_item a1 a2 hx fun h2 b1 s2 => wpAny_pure ?_)
    have b3 : IsPair h2 TO a b := s2.extBut _ _ D.TOi1 a3
    refine wpAny_bind (wpAny_seqItems b3 rfl (wpAny_bind (wpAny_updateSeq_pair b3 fun h3 c3 s3 => wpAny_bind (wpAny_letGo (wpAny_pure ?_)))))
    replace c3 : IsPair h3 TO x b := c3
    have G2 := G h2 h3 b b1 s2 c3 s3
    refine wpAny_bind (wpAny_bind (wpAny_onRaise ?_))
    show wpAny _ _ (Builtin.SmallTypes.nextOf (.ref i2) >>= _) _ _ _
    have e1 : h3.IsTupleIter i2 l2 k := Z.h2.at fun o e => s3.extBut _ o D.TOi2.symm (s2.extBut _ o D.i12.symm (s1.extBut _ o D.i2z e))
    have e2 : h3.IsTuple l2 ys := ((Z.t2.extBut s1.extBut D.l2z).extBut s2.extBut D.l2i1).extBut s3.extBut D.l2TO
    cases hy : ys[k]? with
    | none =>
      rw [hy] at G2
      exact wpAny_bind (nextT_end hh e1 e2 hy fun h4 e s4 he => G2 h4 e s4 he)
    | some y =>
      rw [hy] at G2
      refine wpAny_bind (nextT_item e1 e2 hy fun h4 d1 s4 => wpAny_pure ?_)
      have d3 : IsPair h4 TO x b := s4.extBut _ _ D.TOi2 c3
      refine wpAny_bind (wpAny_seqItems d3 rfl (wpAny_bind (wpAny_updateSeq_pair d3 fun h5 f3 s5 => wpAny_bind (wpAny_letGo (wpAny_pure (wpAny_pure ?_))))))
      replace f3 : IsPair h5 TO x y := f3
      exact wpAny_bind (wpAny_seqItems f3 rfl (G2 h4 h5 d1 s4 f3 s5))
theorem zipT_item {Q : Option Value → Shared → Prop} (hh : A.in1.handled = none) (D : ZipApart z TI TO i1 i2 l1 l2) (Z : Zt s.heap z TI TO i1 i2 l1 l2 .none k xs ys) (hx : xs[k]? = some x) (hy : ys[k]? = some y)
    (hQ : ∀ h', Zt h' z TI TO i1 i2 l1 l2 (rawInt s.heap.objs.size) (k + 1) xs ys → IsPair h' s.heap.objs.size x y → (∀ c o, c ≠ z → c ≠ TO → c ≠ i1 → c ≠ i2 → s.heap.get? c = some o → h'.get? c = some o) → Q (some (.ref s.heap.objs.size)) { s with heap := h' }) :
    wpAny (model prog w) A (pyNext (.ref z)) Q E s := by
  have hT : s.TypeIs (.ref z) "zip" := ⟨_, Z.hz, rfl⟩
  unfold pyNext
  refine wpAny_bind (wpAny_attempt (wpAny_callSpecial?_slot (name := Str.ofString "__next__") hT F.slot_zip_next (wpAny_call_entry F.slot_zip_next hT F.entry_zip_next ?_ (F.args_zip_next_1 _))))
  refine zipT_start D Z (fun h1 hz1 s1 => ?_) hh
  rw [hx]
  intro h2 h3 b b1 s2 c3 s3
  rw [hy]
  intro h4 h5 d1 s4 f3 s5
  have hsz : h5.objs.size = s.heap.objs.size := by rw [s5.1, s4.1, s3.1, s2.1, s1.1]
  have hz5 : IsZip h5 z TI TO .ellipsis := s5.extBut _ _ D.TOz.symm (s4.extBut _ _ D.i2z.symm (s3.extBut _ _ D.TOz.symm (s2.extBut _ _ D.i1z.symm hz1)))
  have k5 : ∀ c o, c ≠ z → c ≠ TO → c ≠ i1 → c ≠ i2 → s.heap.get? c = some o → h5.get? c = some o := fun c o c1 c2 c3 c4 e => s5.extBut _ _ c2 (s4.extBut _ _ c4 (s3.extBut _ _ c2 (s2.extBut _ _ c3 (s1.extBut _ _ c1 e))))
  have g1 : h5.IsTupleIter i1 l1 (k + 1) := b1.at fun o e => s5.extBut _ o D.TOi1.symm (s4.extBut _ o D.i12 (s3.extBut _ o D.TOi1.symm e))
  have g2 : h5.IsTupleIter i2 l2 (k + 1) := d1.at fun o e => s5.extBut _ o D.TOi2.symm e
  have zl : z < h5.objs.size := Heap.lt_size hz5
  refine wpAny_bind (wpAny_newTuple (wpAny_bind ?_))
  unfold Builtin.SmallTypes.ownedTupleHandOut
  have hz6 : IsZip (h5.push { cls := .type "tuple", data := .seq #[x, y] }) z TI TO .ellipsis := Heap.get?_push_of_some _ hz5
  refine wpAny_bind (wpAny_setField_rec hz6 (by simp) fun h7 hz7 s7 => ?_)
  replace hz7 : IsZip h7 z TI TO (rawInt h5.objs.size) := hz7
  refine wpAny_setField_rec hz7 (by simp) fun h8 hz8 s8 => ?_
  replace hz8 : IsZip h8 z TI TO (rawInt h5.objs.size) := hz8
  have up : ∀ c o, c ≠ z → h5.get? c = some o → h8.get? c = some o := fun c o c1 e => s8.extBut _ _ c1 (s7.extBut _ _ c1 (Heap.get?_push_of_some _ e))
  have hT8 : IsPair h8 h5.objs.size x y := s8.extBut _ _ (Nat.ne_of_gt zl) (s7.extBut _ _ (Nat.ne_of_gt zl) (Heap.get?_push_size _ rfl))
  rw [hsz] at hz8 hT8
  refine wpAny_pure ⟨_, rfl, wpAny_pure ?_⟩
  show Q (some (.ref h5.objs.size)) _
  rw [hsz]
  have kk : ∀ c o, c ≠ z → c ≠ TO → c ≠ i1 → c ≠ i2 → s.heap.get? c = some o → h8.get? c = some o := fun c o c1 c2 c3 c4 e => up c o c1 (k5 c o c1 c2 c3 c4 e)
  refine hQ h8 ⟨hz8, kk _ _ D.TIz D.TITO D.TIi1 D.TIi2 Z.hI, ⟨x, y, up _ _ D.TOz f3⟩, g1.at fun o e => up _ o D.i1z e, g2.at fun o e => up _ o D.i2z e, Z.t1.at fun o e => kk _ o D.l1z D.l1TO D.l1i1 D.l1i2 e, Z.t2.at fun o e => kk _ o D.l2z D.l2TO D.l2i1 D.l2i2 e⟩ hT8 kk
theorem zipT_end {Q : Option Value → Shared → Prop} (hh : A.in1.handled = none) (D : ZipApart z TI TO i1 i2 l1 l2) (Z : Zt s.heap z TI TO i1 i2 l1 l2 .none k xs ys) (hend : xs[k]? = none ∨ ys[k]? = none)
    (hQ : ∀ h', (∀ c o, c ≠ z → c ≠ TO → c ≠ i1 → c ≠ i2 → s.heap.get? c = some o → h'.get? c = some o) → Q none { s with heap := h' }) : wpAny (model prog w) A (pyNext (.ref z)) Q E s := by
  have hT : s.TypeIs (.ref z) "zip" := ⟨_, Z.hz, rfl⟩
  unfold pyNext
  refine wpAny_bind (wpAny_attempt (wpAny_callSpecial?_slot (name := Str.ofString "__next__") hT F.slot_zip_next (wpAny_call_entry F.slot_zip_next hT F.entry_zip_next ?_ (F.args_zip_next_1 _))))
  refine zipT_start D Z (fun h1 hz1 s1 => ?_) hh
  cases hx : xs[k]? with
  | none =>
    intro h2 e s2 ⟨oe, hoe, hce⟩
    have hz2 : IsZip h2 z TI TO .ellipsis := s2 _ _ D.i1z.symm hz1
    have hez : e ≠ z := fun x => by subst x; rw [hz2] at hoe; cases hoe; simp at hce
    refine wpAny_setField_rec hz2 (by simp) fun h3 _ s3 => ?_
    refine wpAny_bind (wpAny_isInstance (T := "StopIteration") (b := true) ⟨oe, s3.extBut _ _ hez hoe, hce⟩ isSubtype_stop (wpAny_pure (hQ h3 fun c o c1 _ c3 _ x => ?_)))
    exact s3.extBut _ _ c1 (s2 _ _ c3 (s1.extBut _ _ c1 x))
  | some x =>
    have hy : ys[k]? = none := by rcases hend with h | h; rw [hx] at h; cases h; exact h
    intro h2 h3 b b1 s2 c3 s3
    rw [hy]
    intro h4 e s4 ⟨oe, hoe, hce⟩
    have hz4 : IsZip h4 z TI TO .ellipsis := s4 _ _ D.i2z.symm (s3.extBut _ _ D.TOz.symm (s2.extBut _ _ D.i1z.symm hz1))
    have hez : e ≠ z := fun x => by subst x; rw [hz4] at hoe; cases hoe; simp at hce
    refine wpAny_setField_rec hz4 (by simp) fun h5 _ s5 => ?_
    refine wpAny_bind (wpAny_isInstance (T := "StopIteration") (b := true) ⟨oe, s5.extBut _ _ hez hoe, hce⟩ isSubtype_stop (wpAny_pure (hQ h5 fun c o c1 c2 c3 c4 x => ?_)))
    exact s5.extBut _ _ c1 (s4 _ _ c4 (s3.extBut _ _ c2 (s2.extBut _ _ c3 (s1.extBut _ _ c1 x))))
end
end TF
namespace TF
open PySem PySem.Spec L2
open PyProof.Rows hiding St RelV
noncomputable abbrev zO (I O : Addr) : Obj := { cls := .type "zip", data := .fields #[.none, .bool false, .bool false, .ref I, .ref O] }
noncomputable abbrev prO (a b : Value) : Obj := { cls := .type "tuple", data := .seq #[a, b] }
noncomputable abbrev zq2 (h : Heap) (a b : Addr) : Heap := (h.push (tiO a)).push (tiO b)
noncomputable abbrev zq3 (h : Heap) (a b : Addr) : Heap := (zq2 h a b).push (prO (.ref h.objs.size) (.ref (h.push (tiO a)).objs.size))
noncomputable abbrev zq4 (h : Heap) (a b : Addr) : Heap := (zq3 h a b).push (prO .none .none)
noncomputable abbrev zq5 (h : Heap) (a b : Addr) : Heap := (zq4 h a b).push (zO (zq2 h a b).objs.size (zq3 h a b).objs.size)
theorem meets_zipT (a b : Addr) (xs ys : Array Value) :
    Meets (Builtin.«zip.__new__» ⟨[.type "zip", .ref a, .ref b], []⟩) (fun _ R s => s.heap.IsTuple a xs ∧ s.heap.IsTuple b ys ∧ R (.ok (.ret (.ref (zq4 s.heap a b).objs.size))) { s with heap := zq5 s.heap a b }) :=
  .of_wp fun prog w A R s h => by
    obtain ⟨hp, g, d, tk, os⟩ := s
    obtain ⟨t1, t2, h⟩ := h
    have hsub := sub_zip
    have q1 : Heap.IsTuple (Shared.heap ⟨hp, g, d, tk, os⟩) a xs := t1
    have q2 : Heap.IsTuple (Shared.heap ⟨hp.push (tiO a), g, d, tk, os⟩) b ys := Heap.IsTuple.push t2 _
    wp_walk using wpAny_pyIter_tuple q1, wpAny_pyIter_tuple q2
    exact ⟨_, rfl, h⟩
section
variable {prog : Program} {w : World} {A : Around} {E : Value → Shared → Prop} {s : Shared}
theorem call_zipT {a b : Addr} {xs ys : Array Value} {Q : Value → Shared → Prop} (t1 : s.heap.IsTuple a xs) (t2 : s.heap.IsTuple b ys)
    (h : ∀ h', Zt h' (s.heap.objs.size + 4) (s.heap.objs.size + 2) (s.heap.objs.size + 3) s.heap.objs.size (s.heap.objs.size + 1) a b .none 0 xs ys → (∀ c o, s.heap.get? c = some o → h'.get? c = some o) → Q (.ref (s.heap.objs.size + 4)) { s with heap := h' }) :
    wpAny (model prog w) A (call (.type "zip") [.ref a, .ref b]) Q E s := by
  refine callType_new F.called_zip (by decide) (F.typeCall_zip_2 _ _) (F.newCall_zip_2 _ _) (fun obj => F.args_object_init_3 obj _ _) F.entry_zip_new (meets_zipT a b xs ys) ⟨t1, t2, ?_⟩
  have z1 : (s.heap.push (tiO a)).objs.size = s.heap.objs.size + 1 := Heap.size_push ..
  have z2 : (zq2 s.heap a b).objs.size = s.heap.objs.size + 2 := by rw [Heap.size_push, z1]
  have z3 : (zq3 s.heap a b).objs.size = s.heap.objs.size + 3 := by rw [Heap.size_push, z2]
  have z4 : (zq4 s.heap a b).objs.size = s.heap.objs.size + 4 := by rw [Heap.size_push, z3]
  have g5 : (zq5 s.heap a b).get? (zq4 s.heap a b).objs.size = some (zO (zq2 s.heap a b).objs.size (zq3 s.heap a b).objs.size) := Heap.get?_push_size _ rfl
  have g4 : (zq5 s.heap a b).get? (zq3 s.heap a b).objs.size = some (prO .none .none) := Heap.get?_push_of_some _ (Heap.get?_push_size _ rfl)
  have g3 : (zq5 s.heap a b).get? (zq2 s.heap a b).objs.size = some (prO (.ref s.heap.objs.size) (.ref (s.heap.push (tiO a)).objs.size)) := Heap.get?_push_of_some _ (Heap.get?_push_of_some _ (Heap.get?_push_size _ rfl))
  have g2 : (zq5 s.heap a b).get? (s.heap.push (tiO a)).objs.size = some (tiO b) := Heap.get?_push_of_some _ (Heap.get?_push_of_some _ (Heap.get?_push_of_some _ (Heap.get?_push_size _ rfl)))
  have g1 : (zq5 s.heap a b).get? s.heap.objs.size = some (tiO a) := Heap.get?_push_of_some _ (Heap.get?_push_of_some _ (Heap.get?_push_of_some _ (Heap.get?_push_of_some _ (Heap.get?_push_size _ rfl))))
  have kp : ∀ c o, s.heap.get? c = some o → (zq5 s.heap a b).get? c = some o := fun c o e => Heap.get?_push_of_some _ (Heap.get?_push_of_some _ (Heap.get?_push_of_some _ (Heap.get?_push_of_some _ (Heap.get?_push_of_some _ e))))
  show _ ∧ _
  rw [z2, z3, z4] at g5
  rw [z1, z2] at g3
  rw [z3] at g4
  rw [z1] at g2
  rw [z4]
  exact ⟨⟨_, g5, rfl⟩, h _ ⟨g5, g3, ⟨_, _, g4⟩, ⟨_, g1, rfl, rfl⟩, ⟨_, g2, rfl, rfl⟩, t1.at fun o e => kp _ o e, t2.at fun o e => kp _ o e⟩ kp⟩
end
noncomputable def Itz (K : PySem.W.Frag) (a b : Addr) : It :=
  ⟨fun i H => ∃ xs ys x y, SqT K H a xs ∧ SqT K H b ys ∧ xs[i]? = some x ∧ ys[i]? = some y, fun i H v H' => ∃ x y T, H T = none ∧ v = .ref T ∧ H' = upd H T (.tup [x, y]) ∧ (∀ xs, SqT K H a xs → xs[i]? = some x) ∧ ∀ ys, SqT K H b ys → ys[i]? = some y,
    fun i H => ∃ xs ys, SqT K H a xs ∧ SqT K H b ys ∧ (xs.length ≤ i ∨ ys.length ≤ i)⟩
noncomputable def Zs (z TI TO i1 i2 l1 l2 : Addr) (i : Nat) (h : Heap) : Prop := IsZip h z TI TO .none ∧ IsPair h TI (.ref i1) (.ref i2) ∧ (∃ a b, IsPair h TO a b) ∧ h.IsTupleIter i1 l1 i ∧ h.IsTupleIter i2 l2 i
theorem turn_zip {P : Program} {w : World} {K : PySem.W.Frag} {elts : List Expr} {x1 : Nat} {pos : Pos} {z TI TO i1 i2 a b : Addr} (D : ZipApart z TI TO i1 i2 a b) : Turn P w K (.Tuple elts x1 pos) (Itz K a b) [z, TI, TO, i1, i2] z (Zs z TI TO i1 i2 a b) where
  mem := by simp
  obj := fun i h st c hc => by
    obtain ⟨s1, s2, ⟨x, y, s3⟩, ⟨o4, s4, c4, d4⟩, ⟨o5, s5, c5, d5⟩⟩ := st
    simp only [List.mem_cons, List.not_mem_nil, or_false] at hc
    rcases hc with rfl | rfl | rfl | rfl | rfl
    · exact ⟨_, s1, fun v z => by cases z⟩
    · exact ⟨_, s2, fun v z => by cases z⟩
    · exact ⟨_, s3, fun v z => by cases z⟩
    · exact ⟨o4, s4, fun v z => by rw [d4] at z; cases z⟩
    · exact ⟨o5, s5, fun v z => by rw [d5] at z; cases z⟩
  keep := fun i h h' st k => by
    obtain ⟨s1, s2, ⟨x, y, s3⟩, s4, s5⟩ := st
    exact ⟨k z (by simp) _ s1, k TI (by simp) _ s2, ⟨x, y, k TO (by simp) _ s3⟩, s4.at fun o e => k i1 (by simp) o e, s5.at fun o e => k i2 (by simp) o e⟩
  item := by
    intro X hP hw hK hc i pins s σ H E I hf st hg
    subst hP hw hK
    obtain ⟨xs, ys, x, y, hq1, hq2, hx, hy⟩ := hg
    obtain ⟨its1, rv1, p1, hz1⟩ := I.tuple hq1
    obtain ⟨its2, rv2, p2, hz2⟩ := I.tuple hq2
    obtain ⟨u1, hu1, ru1⟩ := rv1.get hx
    obtain ⟨u2, hu2, ru2⟩ := rv2.get hy
    obtain ⟨s1, s2, s3, s4, s5⟩ := st
    refine zipT_item (by simpa using I.ok.hd hc) D ⟨s1, s2, s3, s4, s5, p1, p2⟩ (by simpa using hu1) (by simpa using hu2) fun h1 Z1 hT hk => ?_
    refine ⟨_, rfl, wpAny_letOwnedTupleGo_zip (s := { s with heap := h1 }) Z1.hz fun h2 hz2' sb => ?_⟩
    have hsb : ∀ c o, c ≠ z → h1.get? c = some o → h2.get? c = some o := fun c o hb q => sb.extBut c o hb q
    have hTf : H s.heap.objs.size = none := I.hok.fresh (Nat.le_refl _)
    have hzl : z < s.heap.objs.size := Heap.lt_size s1
    have hk2 : ∀ c o, c ∉ [z, TI, TO, i1, i2] → s.heap.get? c = some o → h2.get? c = some o := fun c o hm q => by
      simp only [List.mem_cons, List.not_mem_nil, or_false, not_or] at hm
      exact hsb c o hm.1 (hk c o hm.1 hm.2.2.1 hm.2.2.2.1 hm.2.2.2.2 q)
    have nch : ∀ c o, H c = some o → c ∉ [z, TI, TO, i1, i2] := fun c o q hm => by
      have := (hf c hm).1
      rw [q] at this
      cases this
    have un : Un (frs X.stack) [z, TI, TO, i1, i2] H (upd H s.heap.objs.size (.tup [x, y])) s.heap h2 := by
      refine ⟨fun c o q n hb hc => hk2 c o hc q, fun c o q n hb hc => ⟨o.slots, hk2 c o hc q⟩, fun c o q n hc => ?_, fun c o q hc => ⟨o, hk2 c o hc q⟩, fun c ys q => ?_, fun c o v q => ?_, fun c ps q => ⟨#[], ?_⟩⟩
      · rw [upd_ne (Nat.ne_of_lt (Heap.lt_size q))]; exact n
      · rw [upd_ne (ne_of_none q hTf)]; exact q
      · rw [upd_ne (ne_of_none q hTf)]; exact q
      · rw [upd_ne (ne_of_none q hTf), q]; simp
    have hok : HOk X.prog X.w (upd H s.heap.objs.size (.tup [x, y])) h2 := fun c v q => by
      by_cases hb : c = s.heap.objs.size
      · subst hb
        rw [upd_same] at q
        cases q
        exact ⟨by show 2 ≤ sizeLine; rw [sizeLine_eq]; decide, [u1, u2], .cons ru1 (.cons ru2 .nil), _, hsb _ _ (Nat.ne_of_gt hzl) hT, rfl, _, rfl⟩
      · rw [upd_ne hb] at q
        refine (I.hok c v q).stay (fun e o hc r => ?_) (fun e r => by rw [upd_ne (ne_of_none r hTf)]; exact r) fun e ys r => by rw [upd_ne (ne_of_none r hTf)]; exact r
        rcases hc with rfl | hc
        · exact hk2 _ o (nch _ _ q) r
        · exact hk2 e o (nch _ _ hc) r
    have I1 : Inv X pins σ (upd H s.heap.objs.size (.tup [x, y])) { s with heap := h2 } := I.call' (s' := { s with heap := h2 }) rfl un hok I.bare fun c hb => by
      have := hf c hb
      exact ⟨this.2.2.2.1, this.2.1, this.2.2.2.2.1, this.2.2.2.2.2⟩
    refine ⟨.ref s.heap.objs.size, _, I1, rfl, ⟨x, y, _, hTf, rfl, rfl, fun zs hy' => by rw [I.tuple_inj hy' hq1]; exact hx, fun zs hy' => by rw [I.tuple_inj hy' hq2]; exact hy⟩, ⟨hz2', hsb _ _ D.TIz Z1.hI, ?_, Z1.h1.at fun o e => hsb _ o D.i1z e, Z1.h2.at fun o e => hsb _ o D.i2z e⟩, fun c hb => ?_⟩
    · obtain ⟨a', b', e⟩ := Z1.hO
      exact ⟨a', b', hsb _ _ D.TOz e⟩
    · have hlt : c < s.heap.objs.size := by
        simp only [List.mem_cons, List.not_mem_nil, or_false] at hb
        obtain ⟨a', b', s3⟩ := s3
        obtain ⟨o4, s4, _⟩ := s4
        obtain ⟨o5, s5, _⟩ := s5
        rcases hb with rfl | rfl | rfl | rfl | rfl
        · exact Heap.lt_size s1
        · exact Heap.lt_size s2
        · exact Heap.lt_size s3
        · exact Heap.lt_size s4
        · exact Heap.lt_size s5
      rw [upd_ne (Nat.ne_of_lt hlt)]
      exact (hf c hb).1
  done := by
    intro X hP hw hK hc i pins s σ H E I hf st hg
    subst hP hw hK
    obtain ⟨xs, ys, hq1, hq2, hor⟩ := hg
    obtain ⟨its1, rv1, p1, hz1⟩ := I.tuple hq1
    obtain ⟨its2, rv2, p2, hz2⟩ := I.tuple hq2
    obtain ⟨s1, s2, s3, s4, s5⟩ := st
    have l1 := rv1.length
    have l2 := rv2.length
    refine zipT_end (by simpa using I.ok.hd hc) D ⟨s1, s2, s3, s4, s5, p1, p2⟩ (hor.imp (fun h => by simp; omega) fun h => by simp; omega) fun h' hk => ⟨rfl, ?_⟩
    have hk2 : ∀ c o, c ∉ [z, TI, TO, i1, i2] → s.heap.get? c = some o → h'.get? c = some o := fun c o hm q => by
      simp only [List.mem_cons, List.not_mem_nil, or_false, not_or] at hm
      exact hk c o hm.1 hm.2.2.1 hm.2.2.2.1 hm.2.2.2.2 q
    have nch : ∀ c o, H c = some o → c ∉ [z, TI, TO, i1, i2] := fun c o q hm => by
      have := (hf c hm).1
      rw [q] at this
      cases this
    refine I.call' (s' := { s with heap := h' }) rfl ⟨fun c o q n hb hc => hk2 c o hc q, fun c o q n hb hc => ⟨o.slots, hk2 c o hc q⟩, fun c o q n hc => n, fun c o q hc => ⟨o, hk2 c o hc q⟩, fun c ys q => q, fun c o v q => q, fun c ps q => ⟨#[], by rw [q]; simp⟩⟩ (fun c v q => ?_) I.bare fun c hb => ?_
    · refine (I.hok c v q).stay (fun e o hc r => ?_) (fun e r => r) fun e ys r => r
      rcases hc with rfl | hc
      · exact hk2 _ o (nch _ _ q) r
      · exact hk2 e o (nch _ _ hc) r
    · have := hf c hb
      exact ⟨this.2.2.2.1, this.2.1, this.2.2.2.2.1, this.2.2.2.2.2⟩
  self := fun A i s Q E st h => wpAny_pyIter_zip st.1 h
noncomputable def zipD (l m : List Dat) : List Dat := (l.zip m).map fun p => .tup [p.1, p.2]
theorem zipD_get {l m : List Dat} {i : Nat} {d : Dat} (h : (zipD l m)[i]? = some d) : ∃ x y, l[i]? = some x ∧ m[i]? = some y ∧ d = .tup [x, y] := by
  unfold zipD at h
  rw [List.getElem?_map] at h
  obtain ⟨p, hp, rfl⟩ := Option.map_eq_some_iff.mp h
  rw [List.getElem?_zip_eq_some] at hp
  exact ⟨p.1, p.2, hp.1, hp.2, rfl⟩
theorem wk_zip {K : PySem.W.Frag} {G : Gs} {l m : List Dat} {H : Hp} {a b : Addr} {vs ws : List V} (h1 : SqT K (hid H G) a vs) (r1 : RepL K (hid H G) l vs) (h2 : SqT K (hid H G) b ws) (r2 : RepL K (hid H G) m ws) : Wk K (Itz K a b) H G (zipD l m) := by
  intro H' G' e
  have h1' := sqT_same hid_le (sqT_same e.hid h1)
  have h2' := sqT_same hid_le (sqT_same e.hid h2)
  refine ⟨fun i d hd => ?_, vs, ws, h1', h2', ?_⟩
  · obtain ⟨x, y, hx, hy, rfl⟩ := zipD_get hd
    obtain ⟨v, hv, rv⟩ := r1.get hx
    obtain ⟨u, hu, ru⟩ := r2.get hy
    refine ⟨⟨vs, ws, v, u, h1', h2', hv, hu⟩, fun xx H'' hh => ?_⟩
    obtain ⟨x', y', T, hT, rfl, rfl, g1, g2⟩ := hh
    have e1 := g1 vs h1'
    have e2 := g2 ws h2'
    rw [hv] at e1
    rw [hu] at e2
    cases e1
    cases e2
    refine ⟨Ext.alloc hT, fun o => o.alloc hT, fun o => ?_⟩
    rw [Rep]
    exact ⟨T, [v, u], rfl, SqT.of (hid_of (o.free hT) upd_same), RepL.cons ((rv.same e.hid).same (Ext.alloc hT).hid) (RepL.cons ((ru.same e.hid).same (Ext.alloc hT).hid) RepL.nil)⟩
  · have l1 := r1.length
    have l2 := r2.length
    unfold zipD
    rw [List.length_map, List.length_zip, l1, l2]
    omega
section
variable {X : Cx} {ρ : Rho} {G : Gs} {a b : Expr} {l m : List Dat} {pos p1 : Pos} {elts : List Expr} {x1 : Nat} {tpos : Pos}
theorem wi_zip {Q : List Dat → Gs → Prop} (hm : X.mg "zip" = none) (ha : PX X ρ G a (.tup l)) (hb : PX X ρ G b (.tup m)) (q : Q (zipD l m) G) (hg : Gl X "zip" := by rfl) (he : starEach [a, b] X.env = (false, eval a X.env) :: starEach [b] X.env := by rfl) (he2 : starEach [b] X.env = (false, eval b X.env) :: starEach [] X.env := by rfl)
    (hpl : (backTo pos (starEach [b] X.env)).any (·.1) = false := by rfl) : WI X ρ G (.Tuple elts x1 tpos) (.Call (.Name "zip" p1) [a, b] [] pos) Q := by
  intro pins s σ H I S
  refine wpAny_Call_Name_kw (ld_blt I hg hm (by decide +kernel : bootBuiltins "zip" = some (.type "zip")) ?_ (by decide) (by decide))
  have hab : PXs X ρ G [a, b] [.tup l, .tup m] := pxs_cons ha (pxs_cons hb pxs_nil he2) he
  refine PyProof.Rows.callWith_type1 (thn (hab pos pins s σ H I S) fun us s1 ⟨vs, H1, I1, rv, d', G1, e1, o1, rep, q1, q2⟩ => ?_) he hpl
  subst q1; subst q2
  rw [RepL] at rep
  obtain ⟨v1, r1, rfl, ra, rep⟩ := rep
  rw [RepL] at rep
  obtain ⟨v2, r2, rfl, rb, rep⟩ := rep
  rw [RepL] at rep
  subst rep
  rw [Rep] at ra rb
  obtain ⟨pa, as, rfl, h1, g1⟩ := ra
  obtain ⟨pb, bs, rfl, h2, g2⟩ := rb
  obtain ⟨u1, u2, rfl, x1', x2'⟩ := vals2 rv
  cases x1'
  cases x2'
  obtain ⟨its1, rv1, pt1, hz1⟩ := I1.tuple (sqT_same hid_le h1)
  obtain ⟨its2, rv2, pt2, hz2⟩ := I1.tuple (sqT_same hid_le h2)
  have la : pa < s1.heap.objs.size := by obtain ⟨o, ho, _⟩ := pt1; exact Heap.lt_size ho
  have lb : pb < s1.heap.objs.size := by obtain ⟨o, ho, _⟩ := pt2; exact Heap.lt_size ho
  refine call_zipT (show s1.heap.IsTuple pa its1.toArray from pt1) (show s1.heap.IsTuple pb its2.toArray from pt2) fun h' Z hk => ?_
  refine wpAny_pyIter_zip (s := { s1 with heap := h' }) Z.hz ?_
  have D := zipApart_new la lb
  refine ⟨s1.heap.objs.size + 4, [s1.heap.objs.size + 4, s1.heap.objs.size + 2, s1.heap.objs.size + 3, s1.heap.objs.size, s1.heap.objs.size + 1], _, _, H1, rfl, I1.kept (t' := s1.toks) hk, turn_zip D, ⟨Z.hz, Z.hI, Z.hO, Z.h1, Z.h2⟩, fun c hc => ?_, zipD l m, G1, e1, o1, wk_zip h1 g1 h2 g2, q⟩
  have hle : s1.heap.objs.size ≤ c := by
    simp only [List.mem_cons, List.not_mem_nil, or_false] at hc
    rcases hc with rfl | rfl | rfl | rfl | rfl
    · exact Nat.le_add_right _ 4
    · exact Nat.le_add_right _ 2
    · exact Nat.le_add_right _ 3
    · exact Nat.le_refl _
    · exact Nat.le_add_right _ 1
  exact I1.fpOk hle (I1.hok.fresh hle)
end
end TF
namespace TF
open PySem PySem.Spec L2
open PyProof.Rows hiding St RelV
section
variable {X : Cx} {ρ : Rho} {G : Gs} {e a b : Expr} {d d1 d2 : Dat} {l m : List Dat} {pos : Pos} {i j k : Int} {p : Addr} {D : DE} {RX : Value → Gs → Prop} {rest : List Stmt}
theorem px_intB {c : Bool} {pp : Pos} (hm : X.mg "int" = none) (ha : PX X ρ G a (.bl c)) (hg : Gl X "int" := by rfl) (he : starEach [a] X.env = (false, eval a X.env) :: starEach [] X.env := by rfl) : PX X ρ G (.Call (.Name "int" pp) [a] [] pos) (.int (if c then 1 else 0)) :=
  px_callT1 call_int1 hg hm (by decide +kernel) ha (fun H x Q o r kk => by
    cases (show x = V.bl c from r)
    exact .inr ⟨c, rfl, kk _ _ (po1' o rfl)⟩) (he := he)
end
section
open AutoSeq1 (wpAny_loadPart')
theorem ext_T (l : Addr) (items : Array Value) (n : Nat) (b : Addr) (items2 : Array Value) (n2 : Nat) (dct : Option Addr) (sl : Array (Option Value)) (hs0 : ¬(!items.isEmpty && Builtin.List.listTooLong (items.size + items2.size)) = true) (hs1 : items.size ≤ sizeLine) (hs2 : items.size + items2.size ≤ sizeLine + 1) :
    Meets (Builtin.«list.extend» ⟨[.ref l, .ref b], []⟩) (fun _ R s => s.heap.get? l = some { cls := .type "list", dict := none, data := .seq items n, slots := #[] } ∧ s.heap.get? b = some { cls := .type "tuple", dict := dct, data := .seq items2 n2, slots := sl } ∧ R (.ok (.ret Value.none)) { s with heap := s.heap.update l (Obj.mapSeq fun x => x ++ items2), toks := s.toks }) :=
  .of_wp fun prog w A R s h => by
    obtain ⟨hp, g, d, tk, os⟩ := s
    obtain ⟨hl, hb, h⟩ := h
    have f1 := AutoSeq1.idx_int
    have f2 := AutoSeq1.sub_tuple_tuple
    have f3 := AutoSeq1.sub_list_list
    have f4 := AutoSeq1.sub_tuple_list
    have f5 := AutoSeq1.sub_list_tuple
    have hz' : (items ++ items2).size ≤ sizeLine + 1 := by rw [Array.size_append]; exact hs2
    wp_walk using (wpAny_updateSeq hl rfl (hz := hs1) (_hz' := hz')), wpAny_loadPart' hl, wpAny_loadPart' hb
    exact ⟨_, rfl, h⟩
end
section
variable {X : Cx} {ρ : Rho} {G : Gs} {e a : Expr} {l m : List Dat} {pos : Pos} {D : DE} {rest : List Stmt}
noncomputable def rExtT (K : PySem.W.Frag) : V → List V → Hp → VK → Prop := fun x vs H Q => ∃ l b xs zs, x = .ref l ∧ vs = [.ref b] ∧ H l = some (.lst xs) ∧ SqT K H b zs ∧ xs.length + zs.length ≤ sizeLine ∧ Q .non (upd H l (.lst (xs ++ zs)))
theorem mt_extT : MtM X "list.extend" (rExtT X.K) := by
  intro pins s σ H x vs v us Q I rx rv h
  obtain ⟨l, b, xs, zs, rfl, rfl, hH, hB, hz, q⟩ := h
  cases rx
  obtain ⟨u, rfl, ru⟩ := rv.one
  cases ru
  obtain ⟨z, its, n, r, hl, e⟩ := I.lstM hH
  obtain ⟨its2, r2, p2, z2⟩ := I.tuple hB
  obtain ⟨⟨cls, dd, data, sl⟩, ho, hc, n2, hd⟩ := id p2
  simp only at hc hd
  subst hc hd
  have l2 := r2.length
  have hsz : its.toArray.size + its2.toArray.size ≤ sizeLine := by rw [List.size_toArray, List.size_toArray, ← hl, ← l2]; exact hz
  refine call_meets F.slot_list_extend ⟨_, e, rfl⟩ F.entry_list_extend (F.args_list_extend_2 _ _) (ext_T l its.toArray n b its2.toArray n2 dd sl (by rw [notLongL hsz, Bool.and_false]; exact Bool.false_ne_true) (by omega) (by omega)) ⟨e, ho, ?_⟩
  refine ⟨.non, _, I.lset (its' := its ++ its2) hH e (by simp) (r.append r2) ?_, rfl, q⟩
  rw [List.length_append]
  exact hz
theorem wss_extendT {p : Addr} {apos cpos : Pos} (hx : PX X ρ G a (.fn p)) (h : PX X ρ G e (.tup m)) (hG : G p = some (.lst l)) (hz : l.length + m.length ≤ sizeLine) (q : WSs X ρ (put G p (.lst (l ++ m))) rest D)
    (hbase : attributeBase a "extend" X.env (eval a X.env) = eval a X.env := by rfl) (hline : (apos.endLine == cpos.line) = true := by rfl) (he : starEach [e] X.env = (false, eval e X.env) :: starEach [] X.env := by rfl)
    (hfew : ((backTo cpos (starEach [e] X.env)).all (fun x => !x.1) && (backToKw cpos (keywordEach [] X.env)).all (fun x => x.1.isSome) && decide (([e] : List Expr).length + ([] : List Keyword).length + (if ([] : List Keyword).isEmpty then 0 else 1) < 30)) = true := by rfl)
    (hs : swapsWith (.Call (.Attribute a "extend" apos) [e] [] cpos) none pos.line X.env = pure false := by rfl) : WSs X ρ G (.Expr (.Call (.Attribute a "extend" apos) [e] [] cpos) pos :: rest) D :=
  wss_cons (ws_ps (ps_expr (pe_bm PySem.F.plainAttrs_list PySem.F.slot_list_extend PySem.F.type_list_extend mt_extT pe_we (pa_cons pe_we pa_nil he) hbase hfew hline he rfl) hs) fun σ H S => ⟨ρ, G, _, hx, S, fun x H1 ⟨_, _, e1, o1, r1, q1, q1'⟩ => by
    subst q1; subst q1'
    cases (show x = V.ref p from r1)
    obtain ⟨vs1, h1, _⟩ := o1 p _ hG
    refine ⟨.inl ⟨rfl, vs1, SqL.of h1⟩, ρ, _, _, h, S.ext e1 o1, fun y H2 ⟨_, _, e2, o2, r2, q2, q2'⟩ => ?_⟩
    subst q2; subst q2'
    obtain ⟨vs, h2, r3⟩ := o2 p _ hG
    rw [Rep] at r2
    obtain ⟨b, zs, rfl, h4, r4⟩ := r2
    refine ⟨p, b, vs, zs, rfl, rfl, h2, sqT_same hid_le h4, by rw [r3.length, r4.length]; exact hz, ?_⟩
    obtain ⟨E, O⟩ := own_set o2 hG (r3.append r4)
    exact ⟨ρ, _, (e1.trans e2).trans E, S.ext ((e1.trans e2).trans E) O, q⟩⟩)
end
end TF
namespace TF
open PySem PySem.Spec L2
open PyProof.Rows hiding St RelV
noncomputable def squareB : Dat → Bool
  | .tup [.int a, .int b] => (decide (0 ≤ a) && decide (a ≤ 7)) && (decide (0 ≤ b) && decide (b ≤ 7))
  | _ => false
noncomputable def spSquareB : SpD := fun ds G R => ∃ d : Dat, ds = [d] ∧ knownD d = true ∧ R (.bl (squareB d)) G
noncomputable def risD (l : List Dat) : Bool := (l.zip (l.drop 1)).all fun p => cmpD true p.1 p.2
noncomputable def spRising : SpD := fun ds G R => ∃ l : List Dat, ds = [.tup l] ∧ l.length ≤ 1000 ∧ (∀ p ∈ l.zip (l.drop 1), ordC 9 p.1 p.2 = true ∧ plainD 9 p.1 = true ∧ plainD 9 p.2 = true) ∧ R (.bl (risD l)) G
noncomputable def okF (d : Dat) : Prop := (∃ t, tyS d = some t) ∧ ∀ l, d = .tup l → l.length ≤ 1000 ∧ ∀ x ∈ l, knownD x = true
noncomputable def isF (d : Dat) : Prop := ∃ F : List Sq, d = fl F ∧ Good F
noncomputable def spChecked (B : Addr) : SpX := fun ds G R RX => ∃ d : Dat, ds = [d] ∧ okF d ∧ (isF d → R d G) ∧ (¬ isF d → RX (.ref B) G)
theorem square_sq {d : Dat} (h : squareB d = true) : ∃ q : Sq, d = sq q ∧ 0 ≤ q.1 ∧ q.1 ≤ 7 ∧ 0 ≤ q.2 ∧ q.2 ≤ 7 := by
  unfold squareB at h
  split at h
  · rename_i a b
    rw [Bool.and_eq_true, Bool.and_eq_true, Bool.and_eq_true, decide_eq_true_eq, decide_eq_true_eq, decide_eq_true_eq, decide_eq_true_eq] at h
    exact ⟨(a, b), rfl, h.1.1, h.1.2, h.2.1, h.2.2⟩
  · cases h
theorem sq_square {q : Sq} (h : 0 ≤ q.1 ∧ q.1 ≤ 7 ∧ 0 ≤ q.2 ∧ q.2 ≤ 7) : squareB (sq q) = true := by
  unfold squareB sq
  simp only [Bool.and_eq_true, decide_eq_true_eq]
  exact ⟨⟨h.1, h.2.1⟩, h.2.2⟩
theorem all_squares {l : List Dat} (h : l.all squareB = true) : ∃ F : List Sq, l = F.map sq ∧ ∀ p ∈ F, 0 ≤ p.1 ∧ p.1 ≤ 7 ∧ 0 ≤ p.2 ∧ p.2 ≤ 7 := by
  induction l with
  | nil => exact ⟨[], rfl, fun _ h => nomatch h⟩
  | cons d l ih =>
    rw [List.all_cons, Bool.and_eq_true] at h
    obtain ⟨q, rfl, hq⟩ := square_sq h.1
    obtain ⟨F, rfl, hF⟩ := ih h.2
    refine ⟨q :: F, rfl, fun p hp => ?_⟩
    rcases List.mem_cons.mp hp with rfl | hp
    · exact hq
    · exact hF p hp
theorem ris_sq : ∀ F : List Sq, risD (F.map sq) = true ↔ F.Pairwise sqLt
  | [] => ⟨fun _ => .nil, fun _ => rfl⟩
  | [a] => ⟨fun _ => List.pairwise_singleton _ _, fun _ => rfl⟩
  | a :: b :: r => by
    have ih := ris_sq (b :: r)
    have e : risD ((a :: b :: r).map sq) = (cmpD true (sq a) (sq b) && risD ((b :: r).map sq)) := rfl
    rw [e, Bool.and_eq_true, ih, cmp_sq, decide_eq_true_eq, List.pairwise_cons (l := b :: r)]
    constructor
    · rintro ⟨h1, h2⟩
      refine ⟨fun c hc => ?_, h2⟩
      rcases List.mem_cons.mp hc with rfl | hc
      · exact h1
      · exact sqLt_trans h1 ((List.pairwise_cons.mp h2).1 c hc)
    · rintro ⟨h1, h2⟩
      exact ⟨h1 b (List.mem_cons_self ..), h2⟩
theorem ord_sqs (F : List Sq) : ∀ p ∈ (F.map sq).zip ((F.map sq).drop 1), ordC 9 p.1 p.2 = true ∧ plainD 9 p.1 = true ∧ plainD 9 p.2 = true := by
  intro p hp
  obtain ⟨h1, h2⟩ := List.of_mem_zip (a := p.1) (b := p.2) hp
  obtain ⟨x, _, e1⟩ := List.mem_map.mp h1
  obtain ⟨y, _, e2⟩ := List.mem_map.mp (List.mem_of_mem_drop h2)
  rw [← e1, ← e2]
  exact ⟨rfl, plain_sq x 8, plain_sq y 8⟩
theorem okF_fl {F : List Sq} (h : F.length ≤ 1000) : okF (fl F) := ⟨⟨_, rfl⟩, fun l e => by
  unfold fl at e
  injection e with e
  subst e
  refine ⟨by rw [List.length_map]; exact h, fun x hx => ?_⟩
  obtain ⟨y, _, rfl⟩ := List.mem_map.mp hx
  rfl⟩
end TF
namespace TF
open PySem PySem.Spec L2
open PyProof.Rows hiding St RelV
noncomputable def spCovered : SpD := fun ds G R => ∃ l : Lay, ds = [lay l] ∧ l.length ≤ 1000 ∧ R (.lst ((TSq.sort (sqsOf l)).map sq)) G
end TF
namespace TF
open PySem PySem.Spec L2
open PyProof.Rows hiding St RelV
noncomputable def chr (c : Nat) : Str := ⟨#[c]⟩
noncomputable def strL (l : List Nat) : Str := ⟨l.toArray⟩
theorem strL_cps (l : List Nat) : (strL l).cps.toList = l := rfl
theorem strL_len (l : List Nat) : (strL l).length = l.length := by show l.toArray.size = _; simp
noncomputable def signsD (k l : Lay) : List (Dat × Dat) := (sqsOf l).map fun q => (sq q, Dat.str (chr (sgn k q)))
structure BX (k : Lay) (h w : Nat) : Prop where
  box : ∀ p ∈ sqsOf k, 0 ≤ p.1 ∧ p.1 < h ∧ 0 ≤ p.2 ∧ p.2 < w
  hh : ∃ p ∈ sqsOf k, p.1 + 1 = h
  ww : ∃ p ∈ sqsOf k, p.2 + 1 = w
  sm : h ≤ 8 ∧ w ≤ 8
noncomputable def spSigns : SpD := fun ds G R => ∃ k : Lay, ds = [lay k] ∧ (sqsOf k).Nodup ∧ k.length ≤ 1000 ∧ ∀ p, G p = none → R (.fn p) (put G p (.dct (signsD k k)))
noncomputable def spRowS : SpD := fun ds G R => ∃ (k : Lay) (p : Addr) (r w : Nat), ds = [.fn p, .int r, .int w] ∧ G p = some (.dct (signsD k k)) ∧ w ≤ 8 ∧ R (.str (strL (rowM k w r))) G
noncomputable def spShown : SpD := fun ds G R => ∃ (k : Lay) (h w : Nat), ds = [lay k] ∧ (sqsOf k).Nodup ∧ k.length ≤ 1000 ∧ BX k h w ∧ R (.str (strL (textM k h w))) G
noncomputable def spStones : SpD := fun ds G R => ∃ x : Str, ds = [.str x] ∧ x.length ≤ 1000 ∧ R (lay (stonesM ((Txt.split x (chr 10)).map fun p => p.cps.toList))) G
noncomputable def spRead : SpD := fun ds G R => ∃ (F : List Sq) (k : Lay) (h w : Nat), ds = [.str (strL (textM k h w))] ∧ Good F ∧ IsLay F k ∧ BX k h w ∧ R (.tup [fl F, lay k]) G
theorem text_len (k : Lay) (h w : Nat) : (textM k h w).length = h * (w + 1) := by
  unfold textM
  rw [List.length_flatMap]
  have : (fun r => (rowM k w r ++ [10]).length) = fun _ => w + 1 := by
    funext r
    simp [rowM]
  rw [this]
  induction h with
  | zero => simp
  | succ n ih => rw [List.range_succ, List.map_append, List.sum_append, ih]; simp [Nat.succ_mul]
theorem look_signs (k l : Lay) (y : Sq) : lookD (signsD k l) (sq y) = if y ∈ sqsOf l then some (.str (chr (sgn k y))) else none := lookD_sq (sqsOf l) (fun q => .str (chr (sgn k q))) y
theorem look_sgn (k : Lay) (y : Sq) : (lookD (signsD k k) (sq y)).getD (.str (chr 46)) = .str (chr (sgn k y)) := by
  rw [look_signs]
  split
  · rfl
  · rename_i h; rw [sgn_none h]; rfl
theorem signs_keys (k l : Lay) : (signsD k l).map (·.1) = (sqsOf l).map sq := by
  unfold signsD
  rw [List.map_map]
  rfl
theorem put_signs {k l : Lay} {s : Stone} (nd : (sqsOf (l ++ [s])).Nodup) (a b : Nat) (ha : sgn k s.1 = a) (hb : sgn k s.2 = b) : putD (putD (signsD k l) (sq s.1) (.str (chr a))) (sq s.2) (.str (chr b)) = signsD k (l ++ [s]) := by
  have e : sqsOf (l ++ [s]) = sqsOf l ++ [s.1, s.2] := by unfold sqsOf; rw [List.flatMap_append]; rfl
  rw [e, List.nodup_append] at nd
  obtain ⟨_, n2, n3⟩ := nd
  have h1 : s.1 ∉ sqsOf l := fun h => n3 _ h _ (by simp) rfl
  have h2 : s.2 ∉ sqsOf l := fun h => n3 _ h _ (by simp) rfl
  have h3 : s.1 ≠ s.2 := by
    rw [List.nodup_cons] at n2
    simpa using n2.1
  rw [putD_new (kvs := signsD k l) (by rw [look_signs, if_neg h1]), ← ha]
  have e1 : signsD k l ++ [(sq s.1, .str (chr (sgn k s.1)))] = (sqsOf l ++ [s.1]).map fun q => (sq q, Dat.str (chr (sgn k q))) := by rw [List.map_append]; rfl
  rw [e1, putD_new (by rw [lookD_sq (sqsOf l ++ [s.1]) (fun q => .str (chr (sgn k q))), if_neg (by simp; exact ⟨h2, fun q => h3 q.symm⟩)]), ← hb]
  unfold signsD
  rw [e]
  simp
theorem wssf_of {X : Cx} {ρ : Rho} {G : Gs} {D : DE} {RX : Value → Gs → Prop} {l : List Stmt} (h : WSs X ρ G l D) (hx : X.xe = fun _ _ => False) : WSsF X ρ G l D RX := fun pins s σ H I S => by
  have := h pins s σ H I S
  rw [hx] at this
  exact wpAny_mono this (fun _ _ z => z) fun _ _ z => z.elim
theorem join_row (ss : List Str) : Txt.join (Str.ofString "") ss = strL (ss.map fun p => p.cps.toList).flatten := by
  refine str_ext ?_
  show (Builtin.Str.glued (Str.ofString "") ss).cps.toList = _
  rw [StrLaws.glued_eq_join, join_nil]
  rfl
theorem joinOk (ss : List Str) (h : (ss.map (·.length)).sum ≤ 5000) : JoinOk (Str.ofString "") ss = true := by
  unfold JoinOk
  rw [StrLaws.joinTotal]
  have : (Str.ofString "").length = 0 := by decide +kernel
  rw [this]
  unfold Builtin.Str.tooLong
  have := sz h
  simp
  omega
theorem putD_len (kvs : List (Dat × Dat)) (k v : Dat) : (putD kvs k v).length ≤ kvs.length + 1 := by
  unfold putD
  split
  · simp
  · simp
theorem sqs_sub {l m : Lay} (h : l.Sublist m) : (sqsOf l).Sublist (sqsOf m) := by
  induction h with
  | slnil => exact List.Sublist.refl _
  | cons a h ih => rw [sqs_cons]; exact (ih.cons _).cons _
  | cons_cons a h ih => rw [sqs_cons, sqs_cons]; exact (ih.cons_cons _).cons_cons _
theorem sum_ones (l : List Nat) : ((l.map chr).map (·.length)).sum = l.length := by
  induction l with
  | nil => rfl
  | cons a l ih => rw [List.map_cons, List.map_cons, List.sum_cons, ih, List.length_cons, show (chr a).length = 1 from rfl]; omega
theorem px_tupleO {X : Cx} {ρ : Rho} {G : Gs} {a : Expr} {l : List Dat} {pos pp : Pos} {p : Addr} (hG : G p = some (.lst l)) (hg : Gl X "tuple") (hm : X.mg "tuple" = none) (hv : bootBuiltins "tuple" = some (.type "tuple")) (ha : PX X ρ G a (.fn p)) (he : starEach [a] X.env = (false, eval a X.env) :: starEach [] X.env := by rfl) : PX X ρ G (.Call (.Name "tuple" pp) [a] [] pos) (.tup l) :=
  px_callT1 call_tuple_of hg hm hv ha (fun H x Q o r k => by
    obtain ⟨vs, h1, r1⟩ := o p _ hG
    cases (show x = V.ref p from r)
    exact ⟨p, vs, rfl, .inl ⟨SqL.of h1, fun t ht => k _ _ (new_tup o ht r1)⟩⟩) (he := he)
theorem stones_app (a : List (List Nat)) (b : List Nat) : stonesM (a ++ [b]) = stonesM a ++ lineM a.length b := by
  unfold stonesM
  rw [List.length_append, List.length_singleton, List.range_succ, List.flatMap_append]
  congr 1
  · rw [List.flatMap_def, List.flatMap_def]
    congr 1
    refine List.map_congr_left fun i hi => ?_
    have hi' : i < a.length := by simpa using hi
    rw [List.getD_eq_getElem?_getD, List.getD_eq_getElem?_getD, List.getElem?_append_left hi']
  · simp
noncomputable def lineP (i : Nat) (cs : List Nat) (n : Nat) : Lay := (List.range n).flatMap fun j => stoneAt i j cs[j]?
theorem lineP_succ (i : Nat) (cs : List Nat) (n : Nat) : lineP i cs (n + 1) = lineP i cs n ++ stoneAt i n cs[n]? := by
  unfold lineP
  rw [List.range_succ, List.flatMap_append]
  simp
theorem lineP_len (i : Nat) (cs : List Nat) (n : Nat) : (lineP i cs n).length ≤ n := by
  induction n with
  | zero => simp [lineP]
  | succ n ih =>
    rw [lineP_succ, List.length_append]
    have : (stoneAt i n cs[n]?).length ≤ 1 := by
      unfold stoneAt
      split
      · simp
      · split <;> simp
    omega
theorem stones_len' (ls : List (List Nat)) : ∀ n, (stonesM (ls.take n)).length ≤ ((ls.take n).map List.length).sum
  | 0 => by simp [stonesM]
  | n + 1 => by
    have ih := stones_len' ls n
    rw [List.take_add_one]
    cases h : ls[n]? with
    | none => simpa using ih
    | some b =>
      rw [Option.toList_some, stones_app, List.length_append, List.map_append, List.sum_append]
      have := lineP_len (ls.take n).length b b.length
      unfold lineP at this
      unfold lineM
      simp at this ih ⊢
      omega
theorem stones_len (ls : List (List Nat)) : (stonesM ls).length ≤ (ls.map List.length).sum := by
  have := stones_len' ls ls.length
  rwa [List.take_length] at this
theorem jn_len : ∀ ps : List (List Nat), (ps.map List.length).sum ≤ (jn ps).length
  | [] => by simp [jn]
  | [a] => by simp [jn]
  | a :: b :: r => by
    have := jn_len (b :: r)
    show _ ≤ (a ++ 10 :: jn (b :: r)).length
    rw [List.length_append, List.length_cons, List.map_cons, List.sum_cons]
    omega
theorem split_sum (x : Str) : (((Txt.split x (chr 10)).map fun p => p.cps.toList).map List.length).sum ≤ x.length := by
  have h := jn_len ((Txt.split x (chr 10)).map fun p => p.cps.toList)
  rw [← join_jn, show (⟨#[10]⟩ : Str) = chr 10 from rfl, StrLaws.join_split] at h
  exact h
theorem sum_take {i : Nat} {ls : List (List Nat)} {c : List Nat} (h : ls[i]? = some c) : ((ls.take i).map List.length).sum + c.length ≤ (ls.map List.length).sum := by
  have e : ls.take (i + 1) = ls.take i ++ [c] := by rw [List.take_add_one, h]; rfl
  have e2 : (ls.map List.length).sum = ((ls.take (i + 1)).map List.length).sum + ((ls.drop (i + 1)).map List.length).sum := by
    rw [← List.sum_append, ← List.map_append, List.take_append_drop]
  rw [e2, e, List.map_append, List.sum_append]
  simp
theorem chr_eq (c d : Nat) : (chr c == chr d) = decide (c = d) := by
  rw [Bool.eq_iff_iff, beq_iff_eq, decide_eq_true_eq]
  constructor
  · intro h
    unfold chr at h
    injection h with h
    simpa using h
  · rintro rfl; rfl
end TF
namespace TF
open PySem PySem.Spec L2
open PyProof.Rows hiding St RelV
noncomputable def top (i : Nat) : Stmt := PySem.Challenge.pw_tilefloor_k13_texts.main.body.getD i (.Pass ⟨0, 0, 0, 0⟩)
noncomputable abbrev s_is_number : Stmt := top 7
noncomputable abbrev N_is_number : List Str := ["thing"]
noncomputable abbrev P_is_number : List Str := ["thing"]
theorem sc_is_number : FnScope N_is_number P_is_number (defScope s_is_number) := ⟨rfl, rfl, rfl, by decide +kernel, rfl, by decide +kernel, by decide +kernel⟩
noncomputable abbrev s_is_pair : Stmt := top 8
noncomputable abbrev N_is_pair : List Str := ["thing"]
noncomputable abbrev P_is_pair : List Str := ["thing"]
theorem sc_is_pair : FnScope N_is_pair P_is_pair (defScope s_is_pair) := ⟨rfl, rfl, rfl, by decide +kernel, rfl, by decide +kernel, by decide +kernel⟩
noncomputable abbrev s_is_place : Stmt := top 9
noncomputable abbrev N_is_place : List Str := ["thing"]
noncomputable abbrev P_is_place : List Str := ["thing"]
theorem sc_is_place : FnScope N_is_place P_is_place (defScope s_is_place) := ⟨rfl, rfl, rfl, by decide +kernel, rfl, by decide +kernel, by decide +kernel⟩
noncomputable abbrev s_is_square : Stmt := top 10
noncomputable abbrev N_is_square : List Str := ["thing"]
noncomputable abbrev P_is_square : List Str := ["thing"]
theorem sc_is_square : FnScope N_is_square P_is_square (defScope s_is_square) := ⟨rfl, rfl, rfl, by decide +kernel, rfl, by decide +kernel, by decide +kernel⟩
noncomputable abbrev s_is_rising : Stmt := top 11
noncomputable abbrev N_is_rising : List Str := ["things"]
noncomputable abbrev P_is_rising : List Str := ["things"]
theorem sc_is_rising : FnScope N_is_rising P_is_rising (defScope s_is_rising) := ⟨rfl, rfl, rfl, by decide +kernel, rfl, by decide +kernel, by decide +kernel⟩
noncomputable abbrev C_is_rising_0 : List Str := ["one", "other"]
noncomputable abbrev Q_is_rising_0 : List (Option Nat) := [none, none]
noncomputable abbrev s_checked : Stmt := top 12
noncomputable abbrev N_checked : List Str := ["floor"]
noncomputable abbrev P_checked : List Str := ["floor"]
theorem sc_checked : FnScope N_checked P_checked (defScope s_checked) := ⟨rfl, rfl, rfl, by decide +kernel, rfl, by decide +kernel, by decide +kernel⟩
noncomputable abbrev C_checked_0 : List Str := ["thing"]
noncomputable abbrev Q_checked_0 : List (Option Nat) := [none]
noncomputable abbrev s_covered : Stmt := top 13
noncomputable abbrev N_covered : List Str := ["stones", "squares", "stone"]
noncomputable abbrev P_covered : List Str := ["stones"]
theorem sc_covered : FnScope N_covered P_covered (defScope s_covered) := ⟨rfl, rfl, rfl, by decide +kernel, rfl, by decide +kernel, by decide +kernel⟩
noncomputable abbrev s_signs_of : Stmt := top 16
noncomputable abbrev N_signs_of : List Str := ["laying", "signs", "lesser", "greater", "stands"]
noncomputable abbrev P_signs_of : List Str := ["laying"]
theorem sc_signs_of : FnScope N_signs_of P_signs_of (defScope s_signs_of) := ⟨rfl, rfl, rfl, by decide +kernel, rfl, by decide +kernel, by decide +kernel⟩
noncomputable abbrev s_shown_row : Stmt := top 17
noncomputable abbrev N_shown_row : List Str := ["signs", "row", "wide"]
noncomputable abbrev P_shown_row : List Str := ["signs", "row", "wide"]
theorem sc_shown_row : FnScope N_shown_row P_shown_row (defScope s_shown_row) := ⟨rfl, rfl, rfl, by decide +kernel, rfl, by decide +kernel, by decide +kernel⟩
noncomputable abbrev C_shown_row_0 : List Str := ["column", "row", "signs"]
noncomputable abbrev Q_shown_row_0 : List (Option Nat) := [none, some 1, some 0]
noncomputable abbrev s_shown : Stmt := top 18
noncomputable abbrev N_shown : List Str := ["laying", "signs", "high", "wide"]
noncomputable abbrev P_shown : List Str := ["laying"]
theorem sc_shown : FnScope N_shown P_shown (defScope s_shown) := ⟨rfl, rfl, rfl, by decide +kernel, rfl, by decide +kernel, by decide +kernel⟩
noncomputable abbrev C_shown_0 : List Str := ["square"]
noncomputable abbrev Q_shown_0 : List (Option Nat) := [none]
noncomputable abbrev C_shown_1 : List Str := ["square"]
noncomputable abbrev Q_shown_1 : List (Option Nat) := [none]
noncomputable abbrev C_shown_2 : List Str := ["row", "signs", "wide"]
noncomputable abbrev Q_shown_2 : List (Option Nat) := [none, some 1, some 3]
noncomputable abbrev s_stones_in : Stmt := top 19
noncomputable abbrev N_stones_in : List Str := ["text", "stones", "row", "line", "column", "sign"]
noncomputable abbrev P_stones_in : List Str := ["text"]
theorem sc_stones_in : FnScope N_stones_in P_stones_in (defScope s_stones_in) := ⟨rfl, rfl, rfl, by decide +kernel, rfl, by decide +kernel, by decide +kernel⟩
noncomputable abbrev s_read : Stmt := top 20
noncomputable abbrev N_read : List Str := ["text", "laying", "floor"]
noncomputable abbrev P_read : List Str := ["text"]
theorem sc_read : FnScope N_read P_read (defScope s_read) := ⟨rfl, rfl, rfl, by decide +kernel, rfl, by decide +kernel, by decide +kernel⟩
noncomputable abbrev s_law_cell : Stmt := top 22
noncomputable abbrev N_law_cell : List Str := ["_law_script", "_law_k"]
noncomputable abbrev P_law_cell : List Str := ["_law_script", "_law_k"]
theorem sc_law_cell : FnScope N_law_cell P_law_cell (defScope s_law_cell) := ⟨rfl, rfl, rfl, by decide +kernel, rfl, by decide +kernel, by decide +kernel⟩
noncomputable abbrev s_law_mix : Stmt := top 23
noncomputable abbrev N_law_mix : List Str := ["_law_cell_here", "_law_prime", "_law_many"]
noncomputable abbrev P_law_mix : List Str := ["_law_cell_here", "_law_prime", "_law_many"]
theorem sc_law_mix : FnScope N_law_mix P_law_mix (defScope s_law_mix) := ⟨rfl, rfl, rfl, by decide +kernel, rfl, by decide +kernel, by decide +kernel⟩
noncomputable abbrev s_law_floor : Stmt := top 24
noncomputable abbrev N_law_floor : List Str := ["_law_script", "_law_at", "_law_cell_here", "_law_rows", "_law_wide", "_law_down", "_law_right", "_law_some", "_law_r", "_law_gone", "_law_k", "_law_seed", "_law_one", "_law_left"]
noncomputable abbrev P_law_floor : List Str := ["_law_script", "_law_at"]
theorem sc_law_floor : FnScope N_law_floor P_law_floor (defScope s_law_floor) := ⟨rfl, rfl, rfl, by decide +kernel, rfl, by decide +kernel, by decide +kernel⟩
noncomputable abbrev C_law_floor_0 : List Str := ["_law_c", "_law_down", "_law_r", "_law_right"]
noncomputable abbrev Q_law_floor_0 : List (Option Nat) := [none, some 5, some 8, some 6]
noncomputable abbrev C_law_floor_1 : List Str := ["_law_one", "_law_gone"]
noncomputable abbrev Q_law_floor_1 : List (Option Nat) := [none, some 9]
noncomputable abbrev s_law_near : Stmt := top 25
noncomputable abbrev N_law_near : List Str := ["_law_floor_here", "_law_square", "_law_r", "_law_c"]
noncomputable abbrev P_law_near : List Str := ["_law_floor_here", "_law_square"]
theorem sc_law_near : FnScope N_law_near P_law_near (defScope s_law_near) := ⟨rfl, rfl, rfl, by decide +kernel, rfl, by decide +kernel, by decide +kernel⟩
noncomputable abbrev C_law_near_0 : List Str := ["_law_one", "_law_floor_here"]
noncomputable abbrev Q_law_near_0 : List (Option Nat) := [none, some 0]
noncomputable abbrev s_law_every : Stmt := top 26
noncomputable abbrev N_law_every : List Str := ["_law_floor_here", "_law_known", "_law_found", "_law_last", "_law_other", "_law_left"]
noncomputable abbrev P_law_every : List Str := ["_law_floor_here", "_law_known"]
theorem sc_law_every : FnScope N_law_every P_law_every (defScope s_law_every) := ⟨rfl, rfl, rfl, by decide +kernel, rfl, by decide +kernel, by decide +kernel⟩
noncomputable abbrev C_law_every_0 : List Str := ["_law_one", "_law_last", "_law_other"]
noncomputable abbrev Q_law_every_0 : List (Option Nat) := [none, some 3, some 4]
noncomputable abbrev C_law_every_1 : List Str := ["_law_row", "_law_last", "_law_other"]
noncomputable abbrev Q_law_every_1 : List (Option Nat) := [none, some 3, some 4]
noncomputable abbrev s_law_all : Stmt := top 27
noncomputable abbrev N_law_all : List Str := ["_law_floor_here"]
noncomputable abbrev P_law_all : List Str := ["_law_floor_here"]
theorem sc_law_all : FnScope N_law_all P_law_all (defScope s_law_all) := ⟨rfl, rfl, rfl, by decide +kernel, rfl, by decide +kernel, by decide +kernel⟩
noncomputable abbrev C_law_all_0 : List Str := ["_law_row"]
noncomputable abbrev Q_law_all_0 : List (Option Nat) := [none]
noncomputable abbrev s_law_shown : Stmt := top 28
noncomputable abbrev N_law_shown : List Str := ["_law_laying", "_law_known", "_law_one", "_law_other", "_law_rows", "_law_wide", "_law_found", "_law_r", "_law_c"]
noncomputable abbrev P_law_shown : List Str := ["_law_laying"]
theorem sc_law_shown : FnScope N_law_shown P_law_shown (defScope s_law_shown) := ⟨rfl, rfl, rfl, by decide +kernel, rfl, by decide +kernel, by decide +kernel⟩
noncomputable abbrev C_law_shown_0 : List Str := ["_law_square"]
noncomputable abbrev Q_law_shown_0 : List (Option Nat) := [none]
noncomputable abbrev C_law_shown_1 : List Str := ["_law_square"]
noncomputable abbrev Q_law_shown_1 : List (Option Nat) := [none]
noncomputable abbrev s_law : Stmt := top 29
noncomputable abbrev N_law : List Str := ["_law_script", "_law_floor_here", "_law_every_here", "_law_laying", "_law_text", "_law_due"]
noncomputable abbrev P_law : List Str := ["_law_script"]
theorem sc_law : FnScope N_law P_law (defScope s_law) := ⟨rfl, rfl, rfl, by decide +kernel, rfl, by decide +kernel, by decide +kernel⟩
end TF
--
namespace TF
open PySem PySem.Spec L2
open PyProof.Rows hiding St RelV
section
variable {P : Program} {w : World} {K : PySem.W.Frag} {mg : Str → Option Value} {base : Heap} {f : Addr} {fd : FuncData}
theorem ok_signs_of (F : Fun K "signs_of" "signs_of" s_signs_of f fd) : FnOk P w K mg base CX0 1 f fd P_signs_of (liftG K spSigns) := by
  refine fn_d (k := 0) F sc_signs_of (fun ds G R h => ?_) (fun cdv A outer s H E ds G R hr h => ?_)
  · obtain ⟨k, rfl, _⟩ := h; rfl
  obtain ⟨k, rfl, nd, hz, hR⟩ := h
  have hu : (A.deeper (envOfC "signs_of" (defScope s_signs_of) s.heap.objs.size f cdv)).units + 9 < cLine := by have := hr.units; omega
  refine wss_setE 1 sc_signs_of.nd (we_dnew fun p hp => ?_)
  refine wss_for (l := k.map stone) (f := bPair 2 3) (fun i ρ' G' => (∃ x2 x3 x4, ρ' = [some (lay k), some (.fn p), x2, x3, x4]) ∧ G' = put G p (.dct (signsD k (k.take i)))) PassesOwn.never rfl
    (wi_tup (px_var 0 rfl) ⟨rfl, ⟨none, none, none, rfl⟩, rfl⟩) (pgd_pair 2 3 rfl sc_signs_of.nd) ?_ ?_
  · rintro i dd ρ' G' hd ⟨⟨x2, x3, x4, rfl⟩, rfl⟩
    rw [List.getElem?_map] at hd
    obtain ⟨t, ht, rfl⟩ := Option.map_eq_some_iff.mp hd
    have htk : t ∈ k := List.mem_of_getElem? ht
    have et : k.take (i + 1) = k.take i ++ [t] := by rw [List.take_add_one, ht]; rfl
    have hlen : (signsD k (k.take i)).length ≤ 2000 := by
      unfold signsD
      rw [List.length_map, sqs_len, List.length_take]
      omega
    refine ⟨_, rfl, ?_⟩
    refine wss_set 4 sc_signs_of.nd (d := .bl (t.1.2 == t.2.2)) (px_c (pxc_eqI (px_ixT (px_var 2 rfl) px_int rfl) (px_ixT (px_var 3 rfl) px_int rfl))) ?_
    refine wss_dput (d := .str (chr (signF t))) hu (px_ifexp (pxt_val (px_var 4 rfl)) (fun h => PX.cast px_str ?_) (fun h => PX.cast px_str ?_)) (px_var 1 rfl) (px_var 2 rfl) put_same (key_sq t.1) ⟨_, rfl⟩ (sz1 (by omega)) ?_
    · have h' : t.1.2 = t.2.2 := by simpa using h
      unfold signF
      rw [if_pos h']
      rfl
    · have h' : ¬ t.1.2 = t.2.2 := by simpa using h
      unfold signF
      rw [if_neg h']
      rfl
    rw [put_put]
    refine wss_dput (d := .str (chr (signS t))) hu (px_ifexp (pxt_val (px_var 4 rfl)) (fun h => PX.cast px_str ?_) (fun h => PX.cast px_str ?_)) (px_var 1 rfl) (px_var 3 rfl) put_same (key_sq t.2) ⟨_, rfl⟩ (sz1 (Nat.le_trans (putD_len _ _ _) (by omega))) (wss_nil ⟨⟨_, _, _, rfl⟩, ?_⟩)
    · have h' : t.1.2 = t.2.2 := by simpa using h
      unfold signS
      rw [if_pos h']
      rfl
    · have h' : ¬ t.1.2 = t.2.2 := by simpa using h
      unfold signS
      rw [if_neg h']
      rfl
    rw [put_put, et, put_signs]
    · refine List.Nodup.sublist ?_ nd
      rw [← et]
      exact sqs_sub (List.take_sublist _ _)
    · exact sgn_fst nd htk
    · exact sgn_snd nd htk
  · rintro ρ' G' ⟨⟨x2, x3, x4, rfl⟩, rfl⟩
    rw [List.length_map, List.take_length]
    exact wss_ret (px_var 1 rfl) (hR p hp)
theorem ok_shown_row (F : Fun K "shown_row" "shown_row" s_shown_row f fd) (mr : mg "range" = none) : FnOk P w K mg base CX0 1 f fd P_shown_row (liftG K spRowS) := by
  refine fn_d (k := 0) F sc_shown_row (fun ds G R h => ?_) (fun cdv A outer s H E ds G R hr h => ?_)
  · obtain ⟨k, p, r, w, rfl, _⟩ := h; rfl
  obtain ⟨k, p, r, w, rfl, hG, hw, hR⟩ := h
  have hu : (A.deeper (envOfC "shown_row" (defScope s_shown_row) s.heap.objs.size f cdv)).units + 9 < cLine := by have := hr.units; omega
  refine wss_ret (PX.cast (px_join (ss := (rowM k w r).map chr) (PX.cast px_str rfl) (PX.cast (px_compM (Nc := C_shown_row_0) (caps := Q_shown_row_0) (l := rangeD 0 w) (f := bName 0) (fun d => match d with | .int c => .str (chr (sgn k ((r : Int), c))) | _ => .non)
    (compSc (psc := defScope s_shown_row) (PN := N_shown_row) (by decide +kernel) rfl rfl) rfl
    (wi_range1 rfl mr (px_var 2 rfl) (by omega) (by omega) ⟨rfl, rfl⟩)
    (fun C s' H' fp => pgd_name 0 (show C_shown_row_0.Nodup by decide +kernel)) (bName_le rfl) (by rw [rangeD_len]; omega) ?_) ?_) (joinOk _ ?_)) ?_) hR
  · intro C s' H' fp G2 d hd kn
    obtain ⟨c, hc, rfl⟩ := rangeD_mem hd
    refine ⟨_, rfl, PX.cast (px_dgetd (k := sq ((r : Int), 0 + (c : Int))) hu (px_var 2 rfl) (px_tup (pxs_cons (px_var 1 rfl) (pxs_cons (px_var 0 rfl) pxs_nil))) (dd := .str (chr 46)) (PX.cast px_str rfl) (kn p _ hG) (key_sq _) ⟨_, rfl⟩) (look_sgn k _)⟩
  · unfold rowM rangeD
    simp [List.map_map, Function.comp_def]
  · rw [sum_ones]
    simp [rowM]
    omega
  · rw [join_row, List.map_map]
    congr 2
    simp [chr, Function.comp_def, List.flatten_eq_flatMap, List.flatMap_map]
theorem ok_shown (F : Fun K "shown" "shown" s_shown f fd) (mr : mg "range" = none) (mm : mg "max" = none) (FS : Df P w K mg base "signs_of" P_signs_of 1 spSigns) (FR : Df P w K mg base "shown_row" P_shown_row 1 spRowS) : FnOk P w K mg base CX0 2 f fd P_shown (liftG K spShown) := by
  refine fn_d (k := 1) F sc_shown (fun ds G R h => ?_) (fun cdv A outer s H E ds G R hr h => ?_)
  · obtain ⟨k, h, w, rfl, _⟩ := h; rfl
  obtain ⟨k, h, w, rfl, nd, hz, bx, hR⟩ := h
  have hsm := bx.sm
  have hkl : (signsD k k).length ≤ 2000 := by
    unfold signsD
    rw [List.length_map, sqs_len]
    omega
  refine wss_setE 1 sc_shown.nd (we_df FS hr (pxs_cons (px_var 0 rfl) pxs_nil) ⟨k, rfl, nd, hz, fun p hp => ?_⟩)
  refine wss_set 2 sc_shown.nd (d := .int h) (px_maxLd (ns := (sqsOf k).map fun q => q.1 + 1) rfl mm (PX.cast (px_compD (Nc := C_shown_0) (caps := Q_shown_0) (f := bName 0) (fun d => match d with | .tup [.int a, _] => .int (a + 1) | _ => .non)
    (compSc (psc := defScope s_shown) (PN := N_shown) (by decide +kernel) rfl rfl) rfl (px_var 1 rfl) put_same
    (fun C s' H' fp => pgd_name 0 (show C_shown_0.Nodup by decide +kernel)) (bName_le rfl) (sz1 (by omega)) ?_) ?_) px_int ?_ ?_) ?_
  · intro C s' H' fp G2 d hd
    rw [signs_keys] at hd
    obtain ⟨q, _, rfl⟩ := List.mem_map.mp hd
    exact ⟨_, rfl, px_add (px_ixT (px_var 0 rfl) px_int rfl) px_int⟩
  · rw [signs_keys, List.map_map, List.map_map]; rfl
  · obtain ⟨q, hq, e⟩ := bx.hh
    exact List.mem_map.mpr ⟨q, hq, e⟩
  · intro a ha
    obtain ⟨q, hq, rfl⟩ := List.mem_map.mp ha
    have := bx.box q hq
    omega
  refine wss_set 3 sc_shown.nd (d := .int w) (px_maxLd (ns := (sqsOf k).map fun q => q.2 + 1) rfl mm (PX.cast (px_compD (Nc := C_shown_1) (caps := Q_shown_1) (f := bName 0) (fun d => match d with | .tup [_, .int a] => .int (a + 1) | _ => .non)
    (compSc (psc := defScope s_shown) (PN := N_shown) (by decide +kernel) rfl rfl) rfl (px_var 1 rfl) put_same
    (fun C s' H' fp => pgd_name 0 (show C_shown_1.Nodup by decide +kernel)) (bName_le rfl) (sz1 (by omega)) ?_) ?_) px_int ?_ ?_) ?_
  · intro C s' H' fp G2 d hd
    rw [signs_keys] at hd
    obtain ⟨q, _, rfl⟩ := List.mem_map.mp hd
    exact ⟨_, rfl, px_add (px_ixT (px_var 0 rfl) px_int rfl) px_int⟩
  · rw [signs_keys, List.map_map, List.map_map]; rfl
  · obtain ⟨q, hq, e⟩ := bx.ww
    exact List.mem_map.mpr ⟨q, hq, e⟩
  · intro a ha
    obtain ⟨q, hq, rfl⟩ := List.mem_map.mp ha
    have := bx.box q hq
    omega
  refine wss_retE (we_rel (PX.we (d := .str (strL (textM k h w))) (PX.cast (px_join (ss := (List.range h).map fun r => strL (rowM k w r ++ [10])) (PX.cast px_str rfl) (PX.cast (px_compM (Nc := C_shown_2) (caps := Q_shown_2) (l := rangeD 0 h) (f := bName 0) (fun d => match d with | .int r => .str (strL (rowM k w r.toNat ++ [10])) | _ => .non)
    (compSc (psc := defScope s_shown) (PN := N_shown) (by decide +kernel) rfl rfl) rfl
    (wi_range1 rfl mr (px_var 2 rfl) (by omega) (by omega) ⟨rfl, rfl⟩)
    (fun C s' H' fp => pgd_name 0 (show C_shown_2.Nodup by decide +kernel)) (bName_le rfl) (by rw [rangeD_len]; omega) ?_) ?_) (joinOk _ ?_)) ?_) ⟨p, ?_⟩))
  · intro C s' H' fp G2 d hd kn
    obtain ⟨c, hc, rfl⟩ := rangeD_mem hd
    refine ⟨_, rfl, PX.cast (px_addS (x := strL (rowM k w c)) (y := chr 10) (we_df FR hr (pxs_cons (px_var 1 rfl) (pxs_cons (px_var 0 rfl) (pxs_cons (px_var 2 rfl) pxs_nil))) ⟨k, p, c, w, by rw [Int.zero_add], kn p _ put_same, hsm.2, rfl, rfl⟩) (PX.cast px_str rfl) (sz (by rw [strL_len]; simp [rowM, chr, Str.length]; omega))) ?_⟩
    show Dat.str (strL (rowM k w c) ++ chr 10) = Dat.str (strL (rowM k w (0 + (c : Int)).toNat ++ [10]))
    rw [Int.zero_add, Int.toNat_natCast]
    congr 1
    exact str_ext (by rw [cps_app]; rfl)
  · unfold rangeD
    simp [List.map_map, Function.comp_def]
  · have e : (((List.range h).map fun r => strL (rowM k w r ++ [10])).map (·.length)) = (List.range h).map fun _ => w + 1 := by
      rw [List.map_map]
      refine List.map_congr_left fun r _ => ?_
      show (strL (rowM k w r ++ [10])).length = _
      rw [strL_len]
      simp [rowM]
    rw [e, List.map_const', List.sum_replicate_nat, List.length_range]
    have : h * (w + 1) ≤ 8 * 9 := Nat.mul_le_mul hsm.1 (by omega)
    omega
  · rw [join_row, List.map_map]
    congr 2
  · rw [rel_put hp]
    exact hR
theorem ok_stones_in (F : Fun K "stones_in" "stones_in" s_stones_in f fd) (me : mg "enumerate" = none) (mt : mg "tuple" = none) : FnOk P w K mg base CX0 1 f fd P_stones_in (liftG K spStones) := by
  refine fn_d (k := 0) F sc_stones_in (fun ds G R h => ?_) (fun cdv A outer s H E ds G R hr h => ?_)
  · obtain ⟨x, rfl, _⟩ := h; rfl
  obtain ⟨x, rfl, hx, hR⟩ := h
  obtain ⟨ps, hps⟩ : ∃ ps, ps = Txt.split x (chr 10) := ⟨_, rfl⟩
  have hsum := split_sum x
  rw [← hps] at hsum hR
  obtain ⟨ls, hls⟩ : ∃ ls, ls = ps.map fun p => p.cps.toList := ⟨_, rfl⟩
  rw [← hls] at hsum hR
  refine wss_ownL 1 sc_stones_in.nd pxs_nil (fun p hp => ?_)
  refine wss_for (l := enumD (ps.map .str)) (f := bPair 2 3) (fun i ρ' G' => (∃ x2 x3 x4 x5, ρ' = [some (.str x), some (.fn p), x2, x3, x4, x5]) ∧ G' = put G p (.lst ((stonesM (ls.take i)).map stone))) PassesOwn.never rfl
    (wi_enumL me (PX.cast (px_split (y := chr 10) (px_var 0 rfl) (PX.cast px_str rfl) rfl (sz (by omega)) ?_) (by rw [hps])) ⟨rfl, ⟨none, none, none, none, rfl⟩, by simp [stonesM]⟩) (pgd_pair 2 3 rfl sc_stones_in.nd) ?_ ?_
  · rw [length_partsBetween]
    have := StrLaws.occ_length_le x (chr 10) 0 x.length (x.length + 1)
    exact sz (by omega)
  · rintro i dd ρ' G' hd ⟨⟨x2, x3, x4, x5, rfl⟩, rfl⟩
    obtain ⟨e, he, rfl⟩ := enumD_get hd
    rw [List.getElem?_map] at he
    obtain ⟨c, hc, rfl⟩ := Option.map_eq_some_iff.mp he
    have hlc : ls[i]? = some c.cps.toList := by rw [hls, List.getElem?_map, hc]; rfl
    have hli : i < ls.length := (List.getElem?_eq_some_iff.mp hlc).1
    have et : stonesM (ls.take (i + 1)) = stonesM (ls.take i) ++ lineM i c.cps.toList := by
      rw [List.take_add_one, hlc, Option.toList_some, stones_app, List.length_take, Nat.min_eq_left (Nat.le_of_lt hli)]
    have hb1 := stones_len (ls.take i)
    have hb2 := sum_take hlc
    refine ⟨_, rfl, ?_⟩
    refine wss_for (l := enumD (sgnD c)) (f := bPair 4 5) (fun j ρ' G' => (∃ x4 x5, ρ' = [some (.str x), some (.fn p), some (.int (i : Nat)), some (.str c), x4, x5]) ∧ G' = put G p (.lst ((stonesM (ls.take i) ++ lineP i c.cps.toList j).map stone))) PassesOwn.never rfl
      (wi_enumS me (px_var 3 rfl) ⟨rfl, ⟨_, _, rfl⟩, by simp [lineP]⟩) (pgd_pair 4 5 rfl sc_stones_in.nd) ?_ ?_
    · rintro j dd ρ' G' hd ⟨⟨x4, x5, rfl⟩, rfl⟩
      obtain ⟨e, he, rfl⟩ := enumD_get hd
      unfold sgnD at he
      rw [List.getElem?_map] at he
      obtain ⟨d, hd', rfl⟩ := Option.map_eq_some_iff.mp he
      have hj : j < c.cps.toList.length := (List.getElem?_eq_some_iff.mp hd').1
      have hlp := lineP_len i c.cps.toList j
      have hsz : ((stonesM (ls.take i) ++ lineP i c.cps.toList j).map stone).length ≤ 1000 := by
        rw [List.length_map, List.length_append]
        omega
      refine ⟨_, rfl, ?_⟩
      rw [lineP_succ, hd']
      refine wss_if (pxt_c (pxc_eqS (x := chr d) (y := chr 60) (px_var 5 rfl) (PX.cast px_str rfl))) (fun hp => ?_) (fun hp => ?_)
      · rw [chr_eq, decide_eq_true_eq] at hp
        subst hp
        refine wss_append (d := stone (((i : Int), (j : Int)), ((i : Int), (j : Int) + 1))) (px_var 1 rfl) (px_tup (pxs_cons (px_tup (pxs_cons (px_var 2 rfl) (pxs_cons (px_var 4 rfl) pxs_nil))) (pxs_cons (px_tup (pxs_cons (px_var 2 rfl) (pxs_cons (px_add (px_var 4 rfl) px_int) pxs_nil))) pxs_nil))) put_same (sz1 (by omega)) (wss_nil (wss_nil ⟨⟨_, _, rfl⟩, ?_⟩))
        rw [put_put]
        simp [stoneAt]
      · rw [chr_eq, decide_eq_false_iff_not] at hp
        refine wss_if (pxt_c (pxc_eqS (x := chr d) (y := chr 94) (px_var 5 rfl) (PX.cast px_str rfl))) (fun hp2 => ?_) (fun hp2 => ?_)
        · rw [chr_eq, decide_eq_true_eq] at hp2
          subst hp2
          refine wss_append (d := stone (((i : Int), (j : Int)), ((i : Int) + 1, (j : Int)))) (px_var 1 rfl) (px_tup (pxs_cons (px_tup (pxs_cons (px_var 2 rfl) (pxs_cons (px_var 4 rfl) pxs_nil))) (pxs_cons (px_tup (pxs_cons (px_add (px_var 2 rfl) px_int) (pxs_cons (px_var 4 rfl) pxs_nil))) pxs_nil))) put_same (sz1 (by omega)) (wss_nil (wss_nil (wss_nil ⟨⟨_, _, rfl⟩, ?_⟩)))
          rw [put_put]
          simp [stoneAt]
        · rw [chr_eq, decide_eq_false_iff_not] at hp2
          refine wss_nil (wss_nil (wss_nil ⟨⟨_, _, rfl⟩, ?_⟩))
          simp [stoneAt, hp, hp2]
    · rintro ρ' G' ⟨⟨x4, x5, rfl⟩, rfl⟩
      refine wss_nil ⟨⟨_, _, _, _, rfl⟩, ?_⟩
      rw [et, enumD_len]
      unfold sgnD lineM lineP
      simp
  · rintro ρ' G' ⟨⟨x2, x3, x4, x5, rfl⟩, rfl⟩
    refine wss_retE (we_rel (PX.we (px_tupleO put_same rfl mt (by decide +kernel) (px_var 1 rfl)) ⟨p, ?_⟩))
    rw [rel_put hp, enumD_len, List.length_map, show ps.length = ls.length by rw [hls, List.length_map], List.take_length]
    exact hR
end
end TF
--
namespace TF
open PySem PySem.Spec L2
open PyProof.Rows hiding St RelV
theorem exists_max {α : Type} (f : α → Int) : ∀ (l : List α), l ≠ [] → ∃ a ∈ l, ∀ b ∈ l, f b ≤ f a
  | [], h => absurd rfl h
  | [a], _ => ⟨a, by simp, by simp⟩
  | a :: b :: l, _ => by
    obtain ⟨m, hm, h⟩ := exists_max f (b :: l) (by simp)
    by_cases hab : f m ≤ f a
    · exact ⟨a, by simp, fun x hx => by
        rcases List.mem_cons.mp hx with rfl | hx
        · exact Int.le_refl _
        · exact Int.le_trans (h x hx) hab⟩
    · exact ⟨m, List.mem_cons_of_mem _ hm, fun x hx => by
        rcases List.mem_cons.mp hx with rfl | hx
        · omega
        · exact h x hx⟩
theorem bx_ex {F : List Sq} {k : Lay} (gd : Good F) (J : IsLay F k) : ∃ h w, BX k h w := by
  have hin : ∀ p ∈ sqsOf k, 0 ≤ p.1 ∧ p.1 ≤ 7 ∧ 0 ≤ p.2 ∧ p.2 ≤ 7 := fun p hp => gd.inn p (J.pm.mem_iff.mp hp)
  have hne : sqsOf k ≠ [] := fun e => by
    have := J.pm
    rw [e] at this
    exact gd.ne this.symm.eq_nil
  obtain ⟨a, ha, hA⟩ := exists_max (fun p : Sq => p.1) _ hne
  obtain ⟨b, hb, hB⟩ := exists_max (fun p : Sq => p.2) _ hne
  have h1 := hin a ha
  have h2 := hin b hb
  refine ⟨(a.1 + 1).toNat, (b.2 + 1).toNat, fun p hp => ?_, ⟨a, ha, by omega⟩, ⟨b, hb, by omega⟩, by omega⟩
  have h3 := hin p hp
  have h4 := hA p hp
  have h5 := hB p hp
  omega
theorem plain_fk (q : List Sq) (k : Lay) : plainD 9 (.tup [fl q, lay k]) = true := by
  show (plainD 8 (fl q) && (plainD 8 (lay k) && true)) = true
  rw [plain_lay, show plainD 8 (fl q) = true from plain_sqs q 6]
  rfl
theorem eqD_fk (q : List Sq) (k : Lay) : eqD (.tup [fl q, lay k]) (.tup [fl q, lay k]) = true := eqD_refl 9 _ (plain_fk q k)
section
variable {P : Program} {w : World} {K : PySem.W.Frag} {mg : Str → Option Value} {base : Heap} {f : Addr} {fd : FuncData}
theorem ok_read {B : Addr} {tk : Tok} (F : Fun K "read" "read" s_read f fd) (mi : mg "isinstance" = none) (ms : mg "str" = none) (ml : mg "len" = none) (mt : mg "tuple" = none) (hM : mg "MOST_SIGNS" = some (.int 72 tk)) (hB : mg "BadFloor" = some (.ref B)) (xB : PySem.W.excIn K B [.type "ValueError", .type "Exception", .type "BaseException", .type "object"] "ValueError.__new__" = true)
    (FS : Df P w K mg base "stones_in" P_stones_in 1 spStones) (FC : DfX P w K mg base "checked" P_checked 4 (spChecked B)) (FV : Df P w K mg base "covered" P_covered 1 spCovered) (FH : Df P w K mg base "shown" P_shown 2 spShown) : FnOk P w K mg base CX0 5 f fd P_read (liftG K spRead) := by
  refine fn_d (k := 4) F sc_read (fun ds G R h => ?_) (fun cdv A outer s H E ds G R hr h => ?_)
  · obtain ⟨F', k, h, w, rfl, _⟩ := h; rfl
  obtain ⟨F', k, h, w, rfl, gd, J, bx, hR⟩ := h
  have hsm := bx.sm
  have hlen : (strL (textM k h w)).length ≤ 72 := by
    rw [strL_len, text_len]
    exact Nat.le_trans (Nat.mul_le_mul hsm.1 (show w + 1 ≤ 9 by omega)) (by decide)
  have h24 := gd.len
  have hkl := cov_len J.toCov
  have ndk : (sqsOf k).Nodup := J.pm.nodup_iff.mpr gd.nodup
  have e : stonesM ((Txt.split (strL (textM k h w)) (chr 10)).map fun p => p.cps.toList) = k := by
    rw [show chr 10 = (⟨#[10]⟩ : Str) from rfl, split_text (k := k) (h := h) (w := w) rfl]
    exact read_lines J gd.nodup fun p hp => bx.box p (J.pm.mem_iff.mpr hp)
  refine wss_if (p := false) (PXT.cast (pxw_or (pxt_not (pxt_val (px_isi (T := "str") (T' := "str") mi ms (px_var 0 rfl)))) (fun _ => pxw_or1 (pxt_c (pxc_gt (px_lenS ml (px_var 0 rfl) (sz (by omega))) (px_gint hM))))).t ?_) (fun h => absurd h (by decide)) (fun _ => wss_nil ?_)
  · rw [decide_eq_false (show ¬ (72 : Int) < ((strL (textM k h w)).length : Int) by omega)]
    rfl
  refine wss_setE 1 sc_read.nd (we_df FS (hr.mono (by omega)) (pxs_cons (px_var 0 rfl) pxs_nil) ⟨strL (textM k h w), rfl, by omega, ?_⟩)
  rw [e]
  refine wss_try0 (RX := fun _ _ => False) rfl rfl (wssf_of (wss_setE 2 sc_read.nd (we_of_wex (wex_df rfl FC hr (pxs_cons (px_tupleL (l := F'.map sq) rfl mt (by decide +kernel) (PX.cast (d := .lst ((TSq.sort (sqsOf k)).map sq)) (we_df FV (hr.mono (by omega)) (pxs_cons (px_var 1 rfl) pxs_nil) ⟨k, rfl, by omega, rfl, rfl⟩) (by rw [sort_sqs gd.up J.toCov]))) pxs_nil) ⟨fl F', rfl, okF_fl (by omega), fun _ => wss_nil ?_, fun h => (h ⟨F', rfl, gd⟩).elim⟩))) rfl) xB PySem.F.excBase_ValueError hB (fun _ _ h => h.elim)
  refine wss_if (p := false) (PXT.cast (pxt_c (pxc_neS (x := strL (textM k h w)) (we_df FH (hr.mono (by omega)) (pxs_cons (px_var 1 rfl) pxs_nil) ⟨k, h, w, rfl, ndk, by omega, bx, rfl, rfl⟩) (px_var 0 rfl))) (by simp)) (fun h => absurd h (by decide)) (fun _ => wss_nil ?_)
  exact wss_ret (px_tup (pxs_cons (px_var 2 rfl) (pxs_cons (px_var 1 rfl) pxs_nil))) hR
theorem ok_law_shown (F : Fun K "_law_shown" "_law_shown" s_law_shown f fd) (mr : mg "range" = none) (mm : mg "max" = none) (mi : mg "int" = none) : FnOk P w K mg base CX0 1 f fd P_law_shown (liftG K spShown) := by
  refine fn_d (k := 0) F sc_law_shown (fun ds G R h => ?_) (fun cdv A outer s H E ds G R hr h => ?_)
  · obtain ⟨k, h, w, rfl, _⟩ := h; rfl
  obtain ⟨k, h, w, rfl, nd, hz, bx, hR⟩ := h
  have hu : (A.deeper (envOfC "_law_shown" (defScope s_law_shown) s.heap.objs.size f cdv)).units + 9 < cLine := by have := hr.units; omega
  have hsm := bx.sm
  have hkl : (signsD k k).length ≤ 2000 := by
    unfold signsD
    rw [List.length_map, sqs_len]
    omega
  refine wss_setE 1 sc_law_shown.nd (we_dnew fun p hp => ?_)
  refine wss_for (l := k.map stone) (f := bPair 2 3) (fun i ρ' G' => (∃ x2 x3, ρ' = [some (lay k), some (.fn p), x2, x3, none, none, none, none, none]) ∧ G' = put G p (.dct (signsD k (k.take i)))) PassesOwn.never rfl
    (wi_tup (px_var 0 rfl) ⟨rfl, ⟨none, none, rfl⟩, rfl⟩) (pgd_pair 2 3 rfl sc_law_shown.nd) ?_ ?_
  · rintro i dd ρ' G' hd ⟨⟨x2, x3, rfl⟩, rfl⟩
    rw [List.getElem?_map] at hd
    obtain ⟨t, ht, rfl⟩ := Option.map_eq_some_iff.mp hd
    have htk : t ∈ k := List.mem_of_getElem? ht
    have et : k.take (i + 1) = k.take i ++ [t] := by rw [List.take_add_one, ht]; rfl
    have hlen : (signsD k (k.take i)).length ≤ 2000 := by
      unfold signsD
      rw [List.length_map, sqs_len, List.length_take]
      omega
    refine ⟨_, rfl, ?_⟩
    refine wss_dput (d := .str (chr (signF t))) hu (px_ixL (l := [.str (chr 60), .str (chr 94)]) (px_lst (pxs_cons (PX.cast px_str rfl) (pxs_cons (PX.cast px_str rfl) pxs_nil))) (px_intB mi (px_c (pxc_eqI (px_ixT (px_var 2 rfl) px_int rfl) (px_ixT (px_var 3 rfl) px_int rfl)))) ?_) (px_var 1 rfl) (px_var 2 rfl) put_same (key_sq t.1) ⟨_, rfl⟩ (sz1 (by omega)) ?_
    · unfold signF
      by_cases h' : t.1.2 = t.2.2
      · rw [if_pos h', h']; simp; rfl
      · rw [if_neg h', if_neg (by simpa using h')]; rfl
    rw [put_put]
    refine wss_dput (d := .str (chr (signS t))) hu (px_ixL (l := [.str (chr 62), .str (chr 118)]) (px_lst (pxs_cons (PX.cast px_str rfl) (pxs_cons (PX.cast px_str rfl) pxs_nil))) (px_intB mi (px_c (pxc_eqI (px_ixT (px_var 2 rfl) px_int rfl) (px_ixT (px_var 3 rfl) px_int rfl)))) ?_) (px_var 1 rfl) (px_var 3 rfl) put_same (key_sq t.2) ⟨_, rfl⟩ (sz1 (Nat.le_trans (putD_len _ _ _) (by omega))) (wss_nil ⟨⟨_, _, rfl⟩, ?_⟩)
    · unfold signS
      by_cases h' : t.1.2 = t.2.2
      · rw [if_pos h', h']; simp; rfl
      · rw [if_neg h', if_neg (by simpa using h')]; rfl
    rw [put_put, et, put_signs]
    · refine List.Nodup.sublist ?_ nd
      rw [← et]
      exact sqs_sub (List.take_sublist _ _)
    · exact sgn_fst nd htk
    · exact sgn_snd nd htk
  rintro ρ' G' ⟨⟨x2, x3, rfl⟩, rfl⟩
  rw [List.length_map, List.take_length]
  refine wss_set 4 sc_law_shown.nd (d := .int h) (PX.cast (px_add px_int (px_maxL (ns := (sqsOf k).map fun q => q.1) (M := (h : Int) - 1) rfl mm (PX.cast (px_compD (Nc := C_law_shown_0) (caps := Q_law_shown_0) (f := bName 0) (fun d => match d with | .tup [.int a, _] => .int a | _ => .non)
    (compSc (psc := defScope s_law_shown) (PN := N_law_shown) (by decide +kernel) rfl rfl) rfl (px_var 1 rfl) put_same
    (fun C s' H' fp => pgd_name 0 (show C_law_shown_0.Nodup by decide +kernel)) (bName_le rfl) (sz1 (by omega)) ?_) ?_) ?_ ?_)) ?_) ?_
  · intro C s' H' fp G2 d hd
    rw [signs_keys] at hd
    obtain ⟨q, _, rfl⟩ := List.mem_map.mp hd
    exact ⟨_, rfl, px_ixT (px_var 0 rfl) px_int rfl⟩
  · rw [signs_keys, List.map_map, List.map_map]; rfl
  · obtain ⟨q, hq, e⟩ := bx.hh
    exact List.mem_map.mpr ⟨q, hq, by omega⟩
  · intro a ha
    obtain ⟨q, hq, rfl⟩ := List.mem_map.mp ha
    have := bx.box q hq
    omega
  · congr 1; omega
  refine wss_set 5 sc_law_shown.nd (d := .int w) (PX.cast (px_add px_int (px_maxL (ns := (sqsOf k).map fun q => q.2) (M := (w : Int) - 1) rfl mm (PX.cast (px_compD (Nc := C_law_shown_1) (caps := Q_law_shown_1) (f := bName 0) (fun d => match d with | .tup [_, .int a] => .int a | _ => .non)
    (compSc (psc := defScope s_law_shown) (PN := N_law_shown) (by decide +kernel) rfl rfl) rfl (px_var 1 rfl) put_same
    (fun C s' H' fp => pgd_name 0 (show C_law_shown_1.Nodup by decide +kernel)) (bName_le rfl) (sz1 (by omega)) ?_) ?_) ?_ ?_)) ?_) ?_
  · intro C s' H' fp G2 d hd
    rw [signs_keys] at hd
    obtain ⟨q, _, rfl⟩ := List.mem_map.mp hd
    exact ⟨_, rfl, px_ixT (px_var 0 rfl) px_int rfl⟩
  · rw [signs_keys, List.map_map, List.map_map]; rfl
  · obtain ⟨q, hq, e⟩ := bx.ww
    exact List.mem_map.mpr ⟨q, hq, by omega⟩
  · intro a ha
    obtain ⟨q, hq, rfl⟩ := List.mem_map.mp ha
    have := bx.box q hq
    omega
  · congr 1; omega
  refine wss_set 6 sc_law_shown.nd (d := .str (strL [])) (PX.cast px_str rfl) ?_
  refine wss_for (l := rangeD 0 h) (f := bName 7) (fun i ρ' G' => (∃ x7 x8, ρ' = [some (lay k), some (.fn p), x2, x3, some (.int h), some (.int w), some (.str (strL (textM k i w))), x7, x8]) ∧ G' = put G p (.dct (signsD k k))) PassesOwn.never rfl
    (wi_range1 rfl mr (px_var 4 rfl) (by omega) (by omega) ⟨rfl, ⟨none, none, rfl⟩, rfl⟩) (pgd_name 7 sc_law_shown.nd) ?_ ?_
  · rintro i dd ρ' G' hd ⟨⟨x7, x8, rfl⟩, rfl⟩
    obtain ⟨hi, rfl⟩ := rangeD_get hd
    rw [Int.zero_add]
    refine ⟨_, rfl, ?_⟩
    have tl : (textM k i w).length ≤ 72 := by
      rw [text_len]
      exact Nat.le_trans (Nat.mul_le_mul (show i ≤ 8 by omega) (show w + 1 ≤ 9 by omega)) (by decide)
    refine wss_for (l := rangeD 0 w) (f := bName 8) (fun j ρ' G' => (∃ x8, ρ' = [some (lay k), some (.fn p), x2, x3, some (.int h), some (.int w), some (.str (strL (textM k i w ++ rowM k j i))), some (.int (i : Nat)), x8]) ∧ G' = put G p (.dct (signsD k k))) PassesOwn.never rfl
      (wi_range1 rfl mr (px_var 5 rfl) (by omega) (by omega) ⟨rfl, ⟨_, by simp [rowM]; rfl⟩, rfl⟩) (pgd_name 8 sc_law_shown.nd) ?_ ?_
    · rintro j dd ρ' G' hd ⟨⟨x8, rfl⟩, rfl⟩
      obtain ⟨hj, rfl⟩ := rangeD_get hd
      rw [Int.zero_add]
      refine ⟨_, rfl, wss_set 6 sc_law_shown.nd (d := .str (strL (textM k i w ++ rowM k (j + 1) i))) (PX.cast (px_addS (x := strL (textM k i w ++ rowM k j i)) (y := chr (sgn k ((i : Int), (j : Int)))) (px_var 6 rfl) (PX.cast (px_dgetd (k := sq ((i : Int), (j : Int))) hu (px_var 1 rfl) (px_tup (pxs_cons (px_var 7 rfl) (pxs_cons (px_var 8 rfl) pxs_nil))) (dd := .str (chr 46)) (PX.cast px_str rfl) put_same (key_sq _) ⟨_, rfl⟩) (look_sgn k _)) (sz (by rw [strL_len, List.length_append]; simp [rowM, chr, Str.length]; omega))) ?_) (wss_nil ⟨⟨_, rfl⟩, rfl⟩)⟩
      congr 1
      refine str_ext ?_
      rw [cps_app, strL_cps, strL_cps]
      unfold rowM
      rw [List.range_succ, List.map_append, ← List.append_assoc]
      rfl
    · rintro ρ' G' ⟨⟨x8, rfl⟩, rfl⟩
      rw [rangeD_len]
      refine wss_set 6 sc_law_shown.nd (d := .str (strL (textM k (i + 1) w))) (PX.cast (px_addS (x := strL (textM k i w ++ rowM k w i)) (y := chr 10) (px_var 6 rfl) (PX.cast px_str rfl) (sz (by rw [strL_len, List.length_append]; simp [rowM, chr, Str.length]; omega))) ?_) (wss_nil ⟨⟨_, _, rfl⟩, rfl⟩)
      congr 1
      refine str_ext ?_
      rw [cps_app, strL_cps, strL_cps]
      unfold textM
      rw [List.range_succ, List.flatMap_append]
      simp [chr]
  · rintro ρ' G' ⟨⟨x7, x8, rfl⟩, rfl⟩
    rw [rangeD_len]
    refine wss_retE (we_rel (PX.we (px_var 6 rfl) ⟨p, ?_⟩))
    rw [rel_put hp]
    exact hR
theorem ok_law (F : Fun K "law" "law" s_law f fd) (mi : mg "isinstance" = none) (ms : mg "str" = none) (ml : mg "len" = none) (FF : Df P w K mg base "_law_floor" P_law_floor 2 spFloor) (FC : Df P w K mg base "_law_cell" P_law_cell 1 spCell) (FA : Df P w K mg base "_law_all" P_law_all 15 spAll) (FH : Df P w K mg base "shown" P_shown 2 spShown) (FL : Df P w K mg base "_law_shown" P_law_shown 1 spShown) (FR : Df P w K mg base "read" P_read 5 spRead) : FnOk P w K mg base CX0 16 f fd P_law (liftG K spTrue) := by
  refine fn_d (k := 15) F sc_law (fun ds G R h => ?_) (fun cdv A outer s H E ds G R hr h => ?_)
  · obtain ⟨ns, rfl, _⟩ := h; rfl
  obtain ⟨ns, rfl, hR⟩ := h
  have hu : (A.deeper (envOfC "law" (defScope s_law) s.heap.objs.size f cdv)).units + 9 < cLine := by have := hr.units; omega
  refine wss_setE 1 sc_law.nd (we_df FF (hr.mono (by omega)) (pxs_cons (px_var 0 rfl) (pxs_cons px_int pxs_nil)) ⟨ns, 1, rfl, fun q gd => ?_⟩)
  refine wss_setE 2 sc_law.nd (we_df FA (hr.mono (by omega)) (pxs_cons (px_var 1 rfl) pxs_nil) ⟨q, rfl, gd.ne, gd.up, gd.len, ?_⟩)
  refine wss_if (p := (allM q).isEmpty) ?_ (fun hp => wss_ret px_bl hR) (fun hp => wss_nil ?_)
  · refine PXT.cast (pxt_not (pxt_truth (p := !(allM q).isEmpty) (px_var 2 rfl) ?_)) (Bool.not_not _)
    show some (!((allM q).map lay).isEmpty) = _
    rw [List.isEmpty_map]
  have hne : allM q ≠ [] := by rintro h; rw [h] at hp; cases hp
  have hpos : 0 < (allM q).length := List.length_pos_iff.mpr hne
  have pickL : ∀ c : Int, ∃ l, IsLay q l ∧ atI ((allM q).map lay) (c % ((allM q).length : Int)) = some (lay l) := by
    intro c
    have h1 := Int.emod_nonneg c (b := ((allM q).length : Int)) (by omega)
    have h2 := Int.emod_lt_of_pos c (b := ((allM q).length : Int)) (by omega)
    have hlt : (c % ((allM q).length : Int)).toNat < (allM q).length := by omega
    obtain ⟨l, hl⟩ : ∃ l, (allM q)[(c % ((allM q).length : Int)).toNat]? = some l := ⟨_, List.getElem?_eq_getElem hlt⟩
    refine ⟨l, (mem_all gd.up).mp (List.mem_of_getElem? hl), ?_⟩
    have e : c % ((allM q).length : Int) = (((c % ((allM q).length : Int)).toNat : Nat) : Int) := by omega
    rw [e]
    exact atI_map lay (atI_nat hl)
  obtain ⟨k, J, hatl⟩ := pickL (cellN ns 0)
  obtain ⟨h, w', bx⟩ := bx_ex gd J
  have h24 := gd.len
  have hkl := cov_len J.toCov
  have ndk : (sqsOf k).Nodup := J.pm.nodup_iff.mpr gd.nodup
  refine wss_set 3 sc_law.nd (px_ixL (px_var 2 rfl) (px_mod (we_df FC (hr.mono (by omega)) (pxs_cons (px_var 0 rfl) (pxs_cons px_int pxs_nil)) ⟨ns, 0, rfl, rfl, rfl⟩) (px_len (n := (allM q).length) rfl ml (px_var 2 rfl) (by simp [lenD])) (by omega)) hatl) ?_
  refine wss_set 4 sc_law.nd (we_df FH (hr.mono (by omega)) (pxs_cons (px_var 3 rfl) pxs_nil) ⟨k, h, w', rfl, ndk, by omega, bx, rfl, rfl⟩) ?_
  refine wss_set 5 sc_law.nd (we_df FL (hr.mono (by omega)) (pxs_cons (px_var 3 rfl) pxs_nil) ⟨k, h, w', rfl, ndk, by omega, bx, rfl, rfl⟩) ?_
  refine wss_ret (px_and (px_isi (T := "str") (T' := "str") mi ms (px_var 4 rfl)) fun _ => px_and (px_c (pxc_eqS (px_var 4 rfl) (px_var 5 rfl))) fun _ => px_one (px_c (pxc_eq hu (d1 := .tup [fl q, lay k]) (we_df FR (hr.mono (by omega)) (pxs_cons (px_var 5 rfl) pxs_nil) ⟨q, k, h, w', rfl, gd, J, bx, rfl, rfl⟩) (px_tup (pxs_cons (px_var 1 rfl) (pxs_cons (px_var 3 rfl) pxs_nil))) ?_ ?_))) ?_
  · exact plain_fk q k
  · exact plain_fk q k
  have e : (isS "str" "str" && (strL (textM k h w') == strL (textM k h w') && eqD (.tup [fl q, lay k]) (.tup [fl q, lay k]))) = true := by
    rw [beq_self_eq_true, eqD_fk]
    rfl
  rw [e]
  exact hR
end
end TF
--
namespace TF
open PySem PySem.Spec L2
open PyProof.Rows hiding St RelV
section
variable {P : Program} {w : World} {K : PySem.W.Frag} {mg : Str → Option Value} {base : Heap} {f : Addr} {fd : FuncData}
theorem ok_law_cell (F : Fun K "_law_cell" "_law_cell" s_law_cell f fd) (ml : mg "len" = none) : FnOk P w K mg base CX0 1 f fd P_law_cell (liftG K spCell) := by
  refine fn_d (k := 0) F sc_law_cell (fun ds G R h => ?_) (fun cdv A outer s H E ds G R hr h => ?_)
  · obtain ⟨ns, k, rfl, _⟩ := h; rfl
  obtain ⟨ns, k, rfl, hR⟩ := h
  refine wss_if (pxt_c (pxc_lt (px_var 1 rfl) (px_len rfl ml (px_var 0 rfl) rfl))) (fun hp => ?_) (fun hp => ?_)
  · have hlt : k < ns.length := by have := of_decide_eq_true hp; omega
    refine wss_ret (px_ixS (px_var 0 rfl) (px_var 1 rfl) (atI_nat (List.getElem?_eq_getElem hlt))) ?_
    have : cellN ns k = ns[k] := by unfold cellN; rw [List.getD_eq_getElem?_getD, List.getElem?_eq_getElem hlt]; rfl
    rw [← this]; exact hR
  · refine wss_nil (wss_ret px_int ?_)
    have hge : ns.length ≤ k := by have := of_decide_eq_false hp; omega
    have : cellN ns k = 0 := by unfold cellN; rw [List.getD_eq_getElem?_getD, List.getElem?_eq_none hge]; rfl
    rw [this] at hR; exact hR
theorem ok_law_mix (F : Fun K "_law_mix" "_law_mix" s_law_mix f fd) : FnOk P w K mg base CX0 1 f fd P_law_mix (liftG K spMix) := by
  refine fn_d (k := 0) F sc_law_mix (fun ds G R h => ?_) (fun cdv A outer s H E ds G R hr h => ?_)
  · obtain ⟨c, p, m, rfl, _⟩ := h; rfl
  obtain ⟨c, p, m, rfl, hp, hm, hR⟩ := h
  exact wss_ret (px_mod (px_mod (px_mul (px_var 0 rfl) px_int (.inr (by decide))) (px_var 1 rfl) hp) (px_var 2 rfl) hm) hR
theorem px_cellE {X : Cx} {ρ : Rho} {G : Gs} {pos p : Pos} {ns : List Int} {a b : Expr} {k : Nat} (FL : Df X.prog X.w X.K X.mg X.base "_law_cell" P_law_cell 1 spCell) (hr : Room 1 X.A) (ha : PX X ρ G a (.scr ns)) (hb : PX X ρ G b (.int (k : Nat))) (hg : Gl X "_law_cell" := by rfl)
    (he : starEach (a :: [b]) X.env = (false, eval a X.env) :: starEach [b] X.env := by rfl) (he2 : starEach [b] X.env = (false, eval b X.env) :: starEach [] X.env := by rfl) (hpl : (backTo pos (starEach [b] X.env)).any (·.1) = false := by rfl) : PX X ρ G (.Call (.Name "_law_cell" p) [a, b] [] pos) (.int (cellN ns k)) :=
  we_df FL hr (pxs_cons ha (pxs_cons hb pxs_nil he2) he) ⟨ns, k, rfl, rfl, rfl⟩ hg (by decide) he hpl
theorem px_mixE {X : Cx} {ρ : Rho} {G : Gs} {pos p : Pos} {a b c : Expr} {x y : Int} {m n : Nat} (FM : Df X.prog X.w X.K X.mg X.base "_law_mix" P_law_mix 1 spMix) (hr : Room 1 X.A) (ha : PX X ρ G a (.int x)) (hb : PX X ρ G b (.int y)) (hc : PX X ρ G c (.int (m : Nat))) (hy : 0 < y) (hm : 0 < m) (hv : mixI x y m = (n : Nat)) (hg : Gl X "_law_mix" := by rfl)
    (he : starEach [a, b, c] X.env = (false, eval a X.env) :: starEach [b, c] X.env := by rfl) (he2 : starEach [b, c] X.env = (false, eval b X.env) :: starEach [c] X.env := by rfl) (he3 : starEach [c] X.env = (false, eval c X.env) :: starEach [] X.env := by rfl) (hpl : (backTo pos (starEach [b, c] X.env)).any (·.1) = false := by rfl) : PX X ρ G (.Call (.Name "_law_mix" p) [a, b, c] [] pos) (.int (n : Nat)) :=
  we_df FM hr (pxs_cons ha (pxs_cons hb (pxs_cons hc pxs_nil he3) he2) he) ⟨x, y, m, rfl, hy, by omega, by rw [hv]; exact ⟨rfl, rfl⟩⟩ hg (by decide) he hpl
theorem ok_law_floor (F : Fun K "_law_floor" "_law_floor" s_law_floor f fd) (ml : mg "len" = none) (mr : mg "range" = none) (mt : mg "tuple" = none) (mx : mg "max" = none) (mn : mg "min" = none)
    (FL : Df P w K mg base "_law_cell" P_law_cell 1 spCell) (FM : Df P w K mg base "_law_mix" P_law_mix 1 spMix) : FnOk P w K mg base CX0 2 f fd P_law_floor (liftG K spFloor) := by
  refine fn_d (k := 1) F sc_law_floor (fun ds G R h => ?_) (fun cdv A outer s H E ds G R hr h => ?_)
  · obtain ⟨ns, k, rfl, _⟩ := h; rfl
  obtain ⟨ns, k, rfl, hR⟩ := h
  have hu : (A.deeper (envOfC "_law_floor" (defScope s_law_floor) s.heap.objs.size f cdv)).units + 9 < cLine := by have := hr.units; omega
  obtain ⟨r0, r0l, r0e⟩ := mix_nat (cellN ns k) 9973 4 (by decide)
  obtain ⟨w0, w0l, w0e⟩ := mix_nat (cellN ns k) 9967 5 (by decide)
  obtain ⟨b0, b0l, b0e⟩ := mix_nat (cellN ns k) 9901 8 (by decide)
  obtain ⟨q0, q0l, q0e⟩ := mix_nat (cellN ns k) 9887 4 (by decide)
  refine wss_set 2 sc_law_floor.nd (px_cellE FL hr (px_var 0 rfl) (px_var 1 rfl)) ?_
  refine wss_set 3 sc_law_floor.nd (PX.cast (d' := .int ((1 + r0 : Nat) : Int)) (px_add px_int (px_mixE (m := 4) FM hr (px_var 2 rfl) px_int px_int (by decide) (by decide) r0e)) rfl) ?_
  refine wss_set 4 sc_law_floor.nd (PX.cast (d' := .int ((1 + w0 : Nat) : Int)) (px_add px_int (px_mixE (m := 5) FM hr (px_var 2 rfl) px_int px_int (by decide) (by decide) w0e)) rfl) ?_
  refine wss_ifM (fun ρ' G' => G = G' ∧ ∃ r wd : Nat, ShapeOk r wd ∧ ρ' = [some (.scr ns), some (.int k), some (.int (cellN ns k)), some (.int (r : Nat)), some (.int (wd : Nat)), none, none, none, none, none, none, none, none, none])
    (pxt_c (pxc_eqI (px_mixE (m := 8) FM hr (px_var 2 rfl) px_int px_int (by decide) (by decide) b0e) px_int)) (fun hp => ?_) (fun hp => ?_) (fun ρ' G' hM => ?_)
  · obtain ⟨r1, hr1, hs1⟩ : ∃ r1 : Nat, atI [Dat.int 2, .int 3, .int 8, .int 6] ((q0 : Nat) : Int) = some (.int (r1 : Nat)) ∧ 0 < r1 ∧ ShapeOk r1 (24 / r1) := by
      have : q0 = 0 ∨ q0 = 1 ∨ q0 = 2 ∨ q0 = 3 := by omega
      rcases this with rfl | rfl | rfl | rfl
      · exact ⟨2, rfl, by decide, .inr (.inl ⟨rfl, rfl⟩)⟩
      · exact ⟨3, rfl, by decide, .inr (.inr (.inl ⟨rfl, rfl⟩))⟩
      · exact ⟨8, rfl, by decide, .inr (.inr (.inr (.inl ⟨rfl, rfl⟩)))⟩
      · exact ⟨6, rfl, by decide, .inr (.inr (.inr (.inr ⟨rfl, rfl⟩)))⟩
    refine wss_set 3 sc_law_floor.nd (px_ixL (px_lst (pxs_cons px_int (pxs_cons px_int (pxs_cons px_int (pxs_cons px_int pxs_nil))))) (px_mixE (m := 4) FM hr (px_var 2 rfl) px_int px_int (by decide) (by decide) q0e) hr1) ?_
    have hb : r1 ≤ 8 := by rcases hs1.2 with h | h | h | h | h <;> omega
    refine wss_set 4 sc_law_floor.nd (PX.cast (d' := .int ((24 / r1 : Nat) : Int)) (px_fdiv px_int (px_var 3 rfl) ⟨by omega, by omega⟩) rfl) (wss_nil ⟨rfl, r1, 24 / r1, hs1.2, rfl⟩)
  · exact wss_nil ⟨rfl, 1 + r0, 1 + w0, .inl ⟨by omega, by omega, by omega, by omega⟩, rfl⟩
  obtain ⟨rfl, r, wd, hsh, rfl⟩ := hM
  have hr8 : r ≤ 8 ∧ 1 ≤ r := by rcases hsh with h | h | h | h | h <;> omega
  have hw12 : wd ≤ 12 ∧ 1 ≤ wd := by rcases hsh with h | h | h | h | h <;> omega
  obtain ⟨hmul, hpos⟩ := shape_mul hsh
  obtain ⟨dn, dnl, dne⟩ := mix_nat (cellN ns (k + 1)) 9949 (9 - r) (by omega)
  obtain ⟨rt, rtl, rte⟩ := mix_nat (cellN ns (k + 1)) 9941 (max 1 (9 - wd)) (by omega)
  have hrt : rt + min wd 8 ≤ 8 := by omega
  refine wss_set 5 sc_law_floor.nd (px_mixE (m := 9 - r) FM hr (px_cellE (k := k + 1) FL hr (px_var 0 rfl) (PX.cast (px_add (px_var 1 rfl) px_int) rfl)) px_int (PX.cast (px_sub px_int (px_var 3 rfl)) (by congr 1; omega)) (by decide) (by omega) dne) ?_
  refine wss_set 6 sc_law_floor.nd (px_mixE (m := max 1 (9 - wd)) FM hr (px_cellE (k := k + 1) FL hr (px_var 0 rfl) (PX.cast (px_add (px_var 1 rfl) px_int) rfl)) px_int (PX.cast (px_max2 rfl mx px_int (px_sub px_int (px_var 4 rfl))) (by congr 1; omega)) (by decide) (by omega) rte) ?_
  refine wss_set 7 sc_law_floor.nd (px_lst pxs_nil) ?_
  refine wss_for (l := rangeD 0 r) (fun i ρ' G' => G = G' ∧ i ≤ r ∧ ∃ x, ρ' = [some (.scr ns), some (.int k), some (.int (cellN ns k)), some (.int (r : Nat)), some (.int (wd : Nat)), some (.int (dn : Nat)), some (.int (rt : Nat)), some (.lst ((rect i (min wd 8) dn rt).map sq)), x, none, none, none, none, none]) PassesOwn.never rfl
    (wi_range1 rfl mr (px_var 3 rfl) (by omega) (by omega) ⟨by rw [Int.toNat_natCast], rfl, Nat.zero_le _, none, rfl⟩) (pgd_name 8 sc_law_floor.nd) ?_ ?_
  · rintro i dd ρ' G' hd ⟨rfl, hi, x, rfl⟩
    obtain ⟨hlt, rfl⟩ := rangeD_get hd
    refine ⟨_, rfl, ?_⟩
    refine wss_set 7 sc_law_floor.nd (px_cat (px_var 7 rfl) (px_compM (Nc := C_law_floor_0) (caps := Q_law_floor_0) (l := rangeD 0 (min wd 8)) (f := bName 0) (fun x => match x with | .int j => sq ((dn : Int) + (0 + (i : Nat)), (rt : Int) + j) | _ => .non)
      (compSc (psc := defScope s_law_floor) (PN := N_law_floor) (by decide +kernel) rfl rfl) rfl (wi_range1 rfl mr (PX.cast (d' := .int ((min wd 8 : Nat) : Int)) (px_min2 rfl mn (px_var 4 rfl) px_int) (by congr 1; omega)) (by omega) (by omega) ⟨by rw [Int.toNat_natCast], rfl⟩)
      (fun C s' H' fp => pgd_name 0 (show C_law_floor_0.Nodup by decide +kernel)) (bName_le rfl) (by rw [rangeD_len]; omega) ?_) ?_) (wss_nil ⟨rfl, hlt, some (.int (0 + (i : Nat))), ?_⟩)
    · intro C s' H' fp G' x hx _
      obtain ⟨j, _, rfl⟩ := rangeD_mem hx
      exact ⟨_, rfl, px_tup (pxs_cons (px_add (px_var 1 rfl) (px_var 2 rfl)) (pxs_cons (px_add (px_var 3 rfl) (px_var 0 rfl)) pxs_nil))⟩
    · rw [List.length_map, List.length_map, rect_len, rangeD_len]
      have : i * min wd 8 ≤ 8 * 8 := Nat.mul_le_mul (by omega) (by omega)
      exact sz (by omega)
    · refine congrArg (fun z => [some (.scr ns), some (.int k), some (.int (cellN ns k)), some (.int (r : Nat)), some (.int (wd : Nat)), some (.int (dn : Nat)), some (.int (rt : Nat)), some (Dat.lst z), some (.int (0 + (i : Nat))), none, none, none, none, none]) ?_
      rw [rect_succ, List.map_append]
      congr 1
      unfold rangeD
      rw [List.map_map, List.map_map]
      refine List.map_congr_left fun j _ => ?_
      simp [Function.comp, sq]
  rintro ρ' G' ⟨rfl, _, x, rfl⟩
  rw [rangeD_len]
  generalize hL : rect r (min wd 8) dn rt = L
  have hLl : L.length = r * min wd 8 := by rw [← hL, rect_len]
  have gd : ∀ F : List Sq, F.Sublist L → F ≠ [] → Good F := fun F h1 h2 => good_sub (r := r) (w := min wd 8) (d := dn) (e := rt) hmul (by omega) hrt (by rw [hL]; exact h1) h2
  have pl : ∀ l : List Sq, l.length ≤ 6 → (l.map sq).all (plainD 8) = true := fun l _ => plain_sqs l 7
  refine wss_ownL 9 sc_law_floor.nd pxs_nil (fun p hG => ?_)
  obtain ⟨nk, nkl, nke⟩ := mix_nat (cellN ns (k + 2)) 9931 4 (by decide)
  refine wss_for (l := rangeD 0 nk) (fun i ρ' G'' => ∃ (gone : List Sq) (y1 y2 y3 : Option Dat), gone.length ≤ 2 * i ∧ G'' = put G p (.lst (gone.map sq)) ∧ ρ' = [some (.scr ns), some (.int k), some (.int (cellN ns k)), some (.int (r : Nat)), some (.int (wd : Nat)), some (.int (dn : Nat)), some (.int (rt : Nat)), some (.lst (L.map sq)), x, some (.fn p), y1, y2, y3, none]) PassesOwn.never rfl
    (wi_range1 rfl mr (px_mixE (m := 4) FM hr (px_cellE (k := k + 2) FL hr (px_var 0 rfl) (PX.cast (px_add (px_var 1 rfl) px_int) rfl)) px_int px_int (by decide) (by decide) nke) (by omega) (by omega) ⟨by rw [Int.toNat_natCast], [], none, none, none, Nat.le_refl _, rfl, rfl⟩) (pgd_name 10 sc_law_floor.nd) ?_ ?_
  · rintro i dd ρ' G'' hd ⟨gone, y1, y2, y3, hgl, rfl, rfl⟩
    obtain ⟨hlt, rfl⟩ := rangeD_get hd
    refine ⟨_, rfl, ?_⟩
    generalize hseed : cellN ns (k + 3 + i) + 17 * (0 + (i : Int)) * (0 + (i : Int)) = seed
    refine wss_set 11 sc_law_floor.nd (PX.cast (d' := .int seed) (px_add (px_cellE (k := k + 3 + i) FL hr (px_var 0 rfl) (PX.cast (px_add (px_add (px_var 1 rfl) px_int) (px_var 10 rfl)) (by congr 1; omega))) (px_mul (px_mul px_int (px_var 10 rfl) (.inl (by decide))) (px_var 10 rfl) (.inr (by constructor <;> omega)))) (by rw [hseed])) ?_
    obtain ⟨ix, ixl, ixe⟩ := mix_nat seed 9929 (r * min wd 8) hpos
    obtain ⟨c3, c3l, c3e⟩ := mix_nat seed 9923 3 (by decide)
    have hix : ix < L.length := by omega
    refine wss_set 12 sc_law_floor.nd (px_ixL (px_var 7 rfl) (px_mixE (m := r * min wd 8) FM hr (px_var 11 rfl) px_int (PX.cast (px_len rfl ml (px_var 7 rfl) rfl) (by rw [List.length_map, hLl])) (by decide) hpos ixe) (atI_map sq (atI_nat (List.getElem?_eq_getElem hix)))) ?_
    refine wss_append (px_var 9 rfl) (px_var 12 rfl) put_same (by rw [List.length_map]; exact sz1 (by omega)) ?_
    rw [put_put]
    refine wss_if (pxt_c (pxc_gt (px_mixE (m := 3) FM hr (px_var 11 rfl) px_int px_int (by decide) (by decide) c3e) px_int)) (fun hp => ?_) (fun hp => wss_nil (wss_nil ?_))
    · refine wss_append (d := sq (L[ix].1, L[ix].2 + 1)) (px_var 9 rfl) (px_tup (pxs_cons (px_ixT (px_var 12 rfl) px_int rfl) (pxs_cons (px_add (px_ixT (px_var 12 rfl) px_int rfl) px_int) pxs_nil))) put_same (by rw [List.length_append, List.length_map]; exact sz1 (by simp; omega)) (wss_nil (wss_nil ?_))
      rw [put_put]
      refine ⟨gone ++ [L[ix], (L[ix].1, L[ix].2 + 1)], _, _, _, by simp; omega, ?_, rfl⟩
      simp
    · refine ⟨gone ++ [L[ix]], _, _, _, by simp; omega, ?_, rfl⟩
      simp
  rintro ρ' G'' ⟨gone, y1, y2, y3, hgl, rfl, rfl⟩
  rw [rangeD_len] at hgl
  refine wss_set 13 sc_law_floor.nd (PX.cast (d' := fl (L.filter fun q => !gone.contains q)) (px_tupleL rfl mt Boot.«tuple» (px_compF (Nc := C_law_floor_1) (caps := Q_law_floor_1) (l := L.map sq) (f := bName 0) (fun d => !((gone.map sq).any fun e => eqD e d)) id
    (compSc (psc := defScope s_law_floor) (PN := N_law_floor) (by decide +kernel) rfl rfl) rfl (wi_list (px_var 7 rfl) ⟨rfl, rfl⟩)
      (fun C s' H' fp => pgd_name 0 (show C_law_floor_1.Nodup by decide +kernel)) (bName_le rfl) (by rw [List.length_map]; omega) ?_)) ?_) ?_
  · intro C s' H' fp G2 d hd kn
    obtain ⟨q, _, rfl⟩ := List.mem_map.mp hd
    exact ⟨_, rfl, pxt_c (pxc_notInS hu (px_var 0 rfl) (px_var 1 rfl) (.inr (.inr ⟨p, rfl, kn _ _ put_same⟩)) (plain_sq q 7) (pl gone (by omega))), fun _ => px_var 0 rfl⟩
  · rw [fil_sq]
    unfold fl
    congr 3
    funext q
    rw [any_sq]
  generalize hF : (L.filter fun q => !gone.contains q) = F
  have hsub : F.Sublist L := by rw [← hF]; exact List.filter_sublist
  refine wss_if (pxt_truth (px_var 13 rfl) rfl) (fun hp => ?_) (fun hp => wss_nil ?_)
  · refine wss_retE (we_rel (PX.we (px_var 13 rfl) ⟨p, ?_⟩))
    rw [rel_put hG]
    refine hR F (gd F hsub ?_)
    rintro rfl
    simp at hp
  · refine wss_retE (we_rel (PX.we (px_tupleL rfl mt Boot.«tuple» (px_var 7 rfl)) ⟨p, ?_⟩))
    rw [rel_put hG]
    refine hR L (gd L (List.Sublist.refl _) ?_)
    rintro rfl
    simp at hLl
    omega
end
end TF
--
namespace TF
open PySem PySem.Spec L2
open PyProof.Rows hiding St RelV
section
variable {P : Program} {w : World} {K : PySem.W.Frag} {mg : Str → Option Value} {base : Heap} {f : Addr} {fd : FuncData}
theorem ok_law_near (F : Fun K "_law_near" "_law_near" s_law_near f fd) : FnOk P w K mg base CX0 1 f fd P_law_near (liftG K spNear) := by
  refine fn_d (k := 0) F sc_law_near (fun ds G R h => ?_) (fun cdv A outer s H E ds G R hr h => ?_)
  · obtain ⟨q, x, rfl, _⟩ := h; rfl
  obtain ⟨q, x, rfl, hR⟩ := h
  have hu : (A.deeper (envOfC "_law_near" (defScope s_law_near) s.heap.objs.size f cdv)).units + 9 < cLine := by have := hr.units; omega
  refine wss_unpack (f := bPair 2 3) (pgd_pair 2 3 rfl sc_law_near.nd) (px_var 1 rfl) rfl ?_
  refine wss_ret (px_compF (Nc := C_law_near_0) (caps := Q_law_near_0) (l := (nbM x).map sq) (f := bName 0) (fun d => (q.map sq).any fun e => eqD e d) id
    (compSc (psc := defScope s_law_near) (PN := N_law_near) (by decide +kernel) rfl rfl) rfl
    (wi_list (px_lst (pxs_cons (px_tup (pxs_cons (px_sub (px_var 2 rfl) px_int) (pxs_cons (px_var 3 rfl) pxs_nil))) (pxs_cons (px_tup (pxs_cons (px_var 2 rfl) (pxs_cons (px_sub (px_var 3 rfl) px_int) pxs_nil)))
      (pxs_cons (px_tup (pxs_cons (px_var 2 rfl) (pxs_cons (px_add (px_var 3 rfl) px_int) pxs_nil))) (pxs_cons (px_tup (pxs_cons (px_add (px_var 2 rfl) px_int) (pxs_cons (px_var 3 rfl) pxs_nil))) pxs_nil))))) ⟨rfl, rfl⟩)
    (fun C s' H' fp => pgd_name 0 (show C_law_near_0.Nodup by decide +kernel)) (bName_le rfl) (show 4 ≤ 5000 by decide) ?_) ?_
  · intro C s' H' fp G2 d hd kn
    obtain ⟨y, _, rfl⟩ := List.mem_map.mp hd
    exact ⟨_, rfl, pxt_c (pxc_inS hu (px_var 0 rfl) (px_var 1 rfl) (.inl rfl) (plain_sqD y) (plain_sqsD q)), fun _ => px_var 0 rfl⟩
  · rw [fil_sq]
    have : (fun y => (q.map sq).any fun e => eqD e (sq y)) = q.contains := funext fun y => any_sq q y
    rw [this]
    exact hR
end
end TF
--
namespace TF
open PySem PySem.Spec L2
open PyProof.Rows hiding St RelV
section
variable {P : Program} {w : World} {K : PySem.W.Frag} {mg : Str → Option Value} {base : Heap} {f : Addr} {fd : FuncData}
theorem ok_law_every (n : Nat) (F : Fun K "_law_every" "_law_every" s_law_every f fd) (mt : mg "tuple" = none) (FN : Df P w K mg base "_law_near" P_law_near 1 spNear)
    (ih : ∀ m, n = m + 1 → Df P w K mg base "_law_every" P_law_every (m + 2) (spEvery m)) : FnOk P w K mg base CX0 (n + 2) f fd P_law_every (liftG K (spEvery n)) := by
  refine fn_d (k := n + 1) F sc_law_every (fun ds G R h => ?_) (fun cdv A outer s H E ds G R hr h => ?_)
  · obtain ⟨q, kp, kvs, rfl, _⟩ := h; rfl
  obtain ⟨q, kp, kvs, rfl, up, hl, hn, hG, hV, hz, hR⟩ := h
  have hu : (A.deeper (envOfC "_law_every" (defScope s_law_every) s.heap.objs.size f cdv)).units + 9 < cLine := by have := hr.units; omega
  refine wss_if (pxt_not (pxt_truth (p := !q.isEmpty) (px_var 0 rfl) (by cases q <;> rfl))) (fun hp => ?_) (fun hp => wss_nil ?_)
  · have hq : q = [] := by cases q with | nil => rfl | cons _ _ => simp at hp
    subst hq
    refine wss_ret (px_lst (pxs_cons (px_lst pxs_nil) pxs_nil)) ?_
    have := hR kvs hV (by have : 0 < 2 ^ n := Nat.pow_pos (by decide); omega)
    rw [put_self hG] at this
    exact this
  have hne : q ≠ [] := by rintro rfl; simp at hp
  have hlp : 0 < q.length := List.length_pos_iff.mpr hne
  obtain ⟨m, rfl⟩ : ∃ m, n = m + 1 := ⟨n - 1, by omega⟩
  have W := ih m rfl
  have hpow : 0 < 2 ^ m := Nat.pow_pos (by decide)
  have hpow2 : 2 ^ (m + 1) = 2 ^ m + 2 ^ m := by rw [Nat.pow_succ]; omega
  refine wss_ifM (fun ρ' G' => (∃ x2 x3 x4 x5, ρ' = [some (fl q), some (.fn kp), x2, x3, x4, x5]) ∧ ∃ kvs', G' = put G kp (.dct kvs') ∧ ValidE kvs' ∧ kvs'.length + 1 ≤ kvs.length + 2 ^ (m + 1) ∧ lookD kvs' (fl q) = some (rowsD (everyM q)))
    (pxt_c (pxc_dnotin hu (px_var 0 rfl) (px_var 1 rfl) hG (key_fl q) ⟨_, rfl⟩)) (fun hp1 => ?_) (fun hp1 => ?_) (fun ρ' G' hM => ?_)
  · refine wss_set 2 sc_law_every.nd (px_lst pxs_nil) ?_
    refine wss_set 3 sc_law_every.nd (px_ixT (px_var 0 rfl) (px_neg px_int) (last_at hne)) ?_
    have two := near_two up
    refine wss_for (l := (nearM q (lastD q)).map sq) (f := bName 4) (fun i ρ' G' => (∃ x4 x5, ρ' = [some (fl q), some (.fn kp), some (rowsD (((nearM q (lastD q)).take i).flatMap fun o => (everyM (remM q (lastD q) o)).map (· ++ [(o, lastD q)]))), some (sq (lastD q)), x4, x5]) ∧ ∃ kvs', G' = put G kp (.dct kvs') ∧ ValidE kvs' ∧ kvs'.length ≤ kvs.length + i * (2 ^ m - 1)) PassesOwn.never rfl
      (wi_listE (we_df FN (hr.mono (by omega)) (pxs_cons (px_var 0 rfl) (pxs_cons (px_var 3 rfl) pxs_nil)) ⟨q, lastD q, rfl, _, rfl, rfl, ⟨none, none, rfl⟩, kvs, (put_self hG).symm, hV, by simp⟩)) (pgd_name 4 sc_law_every.nd) ?_ ?_
    · rintro i dd ρ' G' hd ⟨⟨x4, x5, rfl⟩, kvs1, rfl, hV1, hl1⟩
      rw [List.getElem?_map] at hd
      obtain ⟨o, ho', rfl⟩ := Option.map_eq_some_iff.mp hd
      have hlt' : i < (nearM q (lastD q)).length := (List.getElem?_eq_some_iff.mp ho').1
      have ho : o ∈ nearM q (lastD q) := List.mem_of_getElem? ho'
      have hl2 := rem_len2 up hne ho
      have hi1 : i * (2 ^ m - 1) ≤ 2 ^ m - 1 := by
        have : i = 0 ∨ i = 1 := by omega
        rcases this with rfl | rfl <;> omega
      refine ⟨_, rfl, ?_⟩
      refine wss_set 5 sc_law_every.nd (PX.cast (d' := fl (remM q (lastD q) o)) (px_tupleL rfl mt Boot.«tuple» (px_compF (Nc := C_law_every_0) (caps := Q_law_every_0) (l := q.map sq) (f := bName 0) (fun d => !(eqD d (sq (lastD q))) && !(eqD d (sq o))) id
        (compSc (psc := defScope s_law_every) (PN := N_law_every) (by decide +kernel) rfl rfl) rfl (wi_tup (px_var 0 rfl) ⟨rfl, rfl⟩)
          (fun C s' H' fp => pgd_name 0 (show C_law_every_0.Nodup by decide +kernel)) (bName_le rfl) (by rw [List.length_map]; omega) ?_)) ?_) ?_
      · intro C s' H' fp G2 d hd kn
        obtain ⟨y, _, rfl⟩ := List.mem_map.mp hd
        exact ⟨_, rfl, (pxw_and (pxt_c (pxc_neD hu (px_var 0 rfl) (px_var 1 rfl) rfl (plain_sq y 8) (plain_sq _ 8))) fun _ => pxw_and1 (pxt_c (pxc_neD hu (px_var 0 rfl) (px_var 2 rfl) rfl (plain_sq y 8) (plain_sq _ 8)))).t, fun _ => px_var 0 rfl⟩
      · rw [fil_sq]
        unfold fl remM
        congr 3
        funext y
        rw [eqD_sq, eqD_sq]
      have hcov := fun r hr => cov_len (every_cov _ (Nat.le_refl _) (rem_up up (lastD q) o) r hr)
      have hlen2 := every_len m (F := remM q (lastD q) o) (by omega) (rem_up up _ _)
      have hm12 : 2 ^ m ≤ 2 ^ 11 := Nat.pow_le_pow_right (by decide) (by omega)
      have h2048 : (2 : Nat) ^ 11 = 2048 := by decide
      have hfl : (((nearM q (lastD q)).take i).flatMap fun o => (everyM (remM q (lastD q) o)).map (· ++ [(o, lastD q)])).length ≤ 2048 := by
        have : i = 0 ∨ i = 1 := by omega
        rcases this with rfl | rfl
        · simp
        · obtain ⟨a, t, e⟩ : ∃ a t, nearM q (lastD q) = a :: t := List.exists_cons_of_ne_nil (List.ne_nil_of_mem ho)
          have ha : a ∈ nearM q (lastD q) := by rw [e]; exact List.mem_cons_self ..
          have hl3 := rem_len2 up hne ha
          have := every_len m (F := remM q (lastD q) a) (by omega) (rem_up up _ _)
          rw [e]
          simp
          omega
      refine wss_setE 2 sc_law_every.nd (we_catE (px_var 2 rfl) (we_compR (Nc := C_law_every_1) (caps := Q_law_every_1) (l := (everyM (remM q (lastD q) o)).map rowD) (f := bName 0) (fun d => match d with | .lst l => .lst (l ++ [stone (o, lastD q)]) | _ => .non)
        (fun G' => ∃ kvs', G' = put G kp (.dct kvs') ∧ ValidE kvs' ∧ kvs'.length ≤ kvs.length + (i + 1) * (2 ^ m - 1))
        (compSc (psc := defScope s_law_every) (PN := N_law_every) (by decide +kernel) rfl rfl) rfl
        (wi_listE (we_df W (hr.mono (by omega)) (pxs_cons (px_var 5 rfl) (pxs_cons (px_var 1 rfl) pxs_nil)) ⟨remM q (lastD q) o, kp, kvs1, rfl, rem_up up _ _, by omega, by omega, put_same, hV1, by omega, fun kvs2 hV2 hl3 => ⟨_, rfl, rfl, kvs2, put_put, hV2, ?_⟩⟩))
        (fun C s' H' fp => pgd_name 0 (show C_law_every_1.Nodup by decide +kernel)) (bName_le rfl) (by rw [List.length_map]; exact sz1 (by omega)) ?_ ?_))
      · have : (i + 1) * (2 ^ m - 1) = i * (2 ^ m - 1) + (2 ^ m - 1) := by rw [Nat.add_mul]; omega
        omega
      · intro C s' H' fp G2 d hd
        obtain ⟨r, hrm, rfl⟩ := List.mem_map.mp hd
        have := hcov r hrm
        exact ⟨_, rfl, px_cat (px_var 0 rfl) (px_lst (pxs_cons (px_tup (pxs_cons (px_var 2 rfl) (pxs_cons (px_var 1 rfl) pxs_nil))) pxs_nil)) (by rw [List.length_map]; exact sz (by simp; omega))⟩
      · rintro G2 ⟨kvs2, rfl, hV2, hl3⟩
        refine ⟨_, rfl, ?_, wss_nil ⟨⟨some (sq o), some (fl (remM q (lastD q) o)), ?_⟩, kvs2, rfl, hV2, hl3⟩⟩
        · rw [List.length_map, List.length_map, List.length_map]; refine sz (Nat.le_trans (Nat.add_le_add hfl (Nat.le_trans hlen2 hm12)) (by decide))
        · refine congrArg (fun z => [some (fl q), some (.fn kp), some z, some (sq (lastD q)), some (sq o), some (fl (remM q (lastD q) o))]) ?_
          rw [List.take_add_one, ho', List.flatMap_append]
          unfold rowsD
          simp only [Option.toList_some, List.flatMap_cons, List.flatMap_nil, List.append_nil, List.map_append, List.map_map, Dat.lst.injEq]
          congr 1
          refine List.map_congr_left fun r _ => ?_
          simp [Function.comp, rowD]
    · rintro ρ' G' ⟨⟨x4, x5, rfl⟩, kvs1, rfl, hV1, hl1⟩
      rw [List.length_map, List.take_length, ← everyM_ne hne] at *
      have hl2 : kvs1.length ≤ kvs.length + 2 * (2 ^ m - 1) := Nat.le_trans hl1 (Nat.add_le_add_left (Nat.mul_le_mul_right _ two) _)
      refine wss_dput (k := fl q) (d := rowsD (everyM q)) hu (px_var 2 rfl) (px_var 1 rfl) (px_var 0 rfl) put_same (key_fl q) ⟨_, rfl⟩ (sz1 (by have : (2 : Nat) ^ 12 = 4096 := rfl; omega)) (wss_nil ⟨⟨_, _, _, _, rfl⟩, ?_⟩)
      rw [put_put]
      exact ⟨_, rfl, hV1.put q, by have := putD_length kvs1 (fl q) (rowsD (everyM q)); omega, lookD_put' _ _ _⟩
  · refine wss_nil ⟨⟨_, _, _, _, rfl⟩, kvs, (put_self hG).symm, hV, by omega, ?_⟩
    have hs : (lookD kvs (fl q)).isSome = true := by
      cases e : (lookD kvs (fl q)).isSome with
      | true => rfl
      | false =>
        have hp2 : (!(lookD kvs (fl q)).isSome) = false := hp1
        rw [e] at hp2
        cases hp2
    obtain ⟨d, hd⟩ := Option.isSome_iff_exists.mp hs
    rw [hd, hV.look hd]
  · obtain ⟨⟨x2, x3, x4, x5, rfl⟩, kvs', rfl, hV', hl', look⟩ := hM
    exact wss_ret (px_dget (k := fl q) hu (px_var 1 rfl) (px_var 0 rfl) put_same (key_fl q) ⟨_, rfl⟩ look) (hR kvs' hV' hl')
theorem ok_law_all (F : Fun K "_law_all" "_law_all" s_law_all f fd) (mt : mg "tuple" = none) (ms : mg "sorted" = none) (W : Df P w K mg base "_law_every" P_law_every 14 (spEvery 12)) : FnOk P w K mg base CX0 15 f fd P_law_all (liftG K spAll) := by
  refine fn_d (k := 14) F sc_law_all (fun ds G R h => ?_) (fun cdv A outer s H E ds G R hr h => ?_)
  · obtain ⟨q, rfl, _⟩ := h; rfl
  obtain ⟨q, rfl, hne, up, hl, hR⟩ := h
  have hu : (A.deeper (envOfC "_law_all" (defScope s_law_all) s.heap.objs.size f cdv)).units + 20 < cLine := by have := hr.units; omega
  have ez := every_len 12 (F := q) (by omega) up
  have h4096 : (2 : Nat) ^ 12 = 4096 := by decide
  have V0 : ValidE [] := fun _ h => nomatch h
  refine wss_ret (px_sortedT TLay ((everyM q).map TSt.sort) (d1 := .lst (((everyM q).map TSt.sort).map lay)) hu ms (we_rel (we_compR (Nc := C_law_all_0) (caps := Q_law_all_0) (l := (everyM q).map rowD) (f := bName 0) (via rowD fun r => lay (TSt.sort r))
    (fun G' => ∃ p kvs, G p = none ∧ G' = put G p (.dct kvs)) (compSc (psc := defScope s_law_all) (PN := N_law_all) (by decide +kernel) rfl rfl) rfl
    (wi_listE (we_dfA W hr (wa_cons (PX.we (px_var 0 rfl) (wa_cons (we_dnew fun p hp => wa_nil ⟨q, p, [], rfl, up, by omega, by omega, put_same, V0, by decide, fun kvs' _ _ => ⟨_, rfl, rfl, p, kvs', hp, put_put⟩⟩))))))
    (fun C s' H' fp => pgd_name 0 (show C_law_all_0.Nodup by decide +kernel)) (bName_le rfl) (by rw [List.length_map]; exact sz1 (by omega)) ?_ ?_)) (.inl rfl) ?_) ?_
  · intro C s' H' fp G2 d hd
    obtain ⟨r, hrm, rfl⟩ := List.mem_map.mp hd
    refine ⟨_, rfl, ?_⟩
    rw [via_eq rowD_inj]
    exact px_tupleL rfl mt Boot.«tuple» (px_sortedT TSt r hu ms (px_var 0 rfl) (.inl rfl) (.inr fun x _ => ⟨_, _, rfl⟩))
  · rintro G' ⟨p, kvs, hp, rfl⟩
    refine ⟨p, ?_, ?_⟩
    · rw [map_via rowD_inj, List.map_map]; rfl
    · rw [rel_put hp]
  · refine .inr fun x hx => ?_
    obtain ⟨r, hr, rfl⟩ := List.mem_map.mp hx
    have C := (every_cov _ (Nat.le_refl _) up r hr).lay (up_nd up)
    have hc := cov_len C.toCov
    have hlp : 0 < q.length := List.length_pos_iff.mpr hne
    obtain ⟨a, t, e⟩ : ∃ a t, TSt.sort r = a :: t := List.exists_cons_of_ne_nil (by intro h0; rw [h0] at hc; simp at hc; omega)
    rw [e]
    exact ⟨_, _, rfl⟩
  · exact hR
end
end TF
--
namespace TF
open PySem PySem.Spec L2
open PyProof.Rows hiding St RelV
section
variable {P : Program} {w : World} {K : PySem.W.Frag} {mg : Str → Option Value} {base : Heap} {f : Addr} {fd : FuncData}
theorem ok_is_number (F : Fun K "is_number" "is_number" s_is_number f fd) (mi : mg "isinstance" = none) (mn : mg "int" = none) (mb : mg "bool" = none) : FnOk P w K mg base CX0 1 f fd P_is_number (liftG K spNumber) := by
  refine fn_d (k := 0) F sc_is_number (fun ds G R h => ?_) (fun cdv A outer s H E ds G R hr h => ?_)
  · obtain ⟨d, t, rfl, _⟩ := h; rfl
  obtain ⟨d, t, rfl, ht, hR⟩ := h
  refine wss_ret (px_and (px_isi (T := "int") (T' := "int") mi mn (px_var 0 rfl) ht) fun _ => px_one (px_not (px_isi (T := "bool") (T' := "bool") mi mb (px_var 0 rfl) ht))) ?_
  rw [isS_num]
  exact hR
theorem ok_is_pair (F : Fun K "is_pair" "is_pair" s_is_pair f fd) (mi : mg "isinstance" = none) (mt : mg "tuple" = none) (ml : mg "len" = none) : FnOk P w K mg base CX0 1 f fd P_is_pair (liftG K spPairB) := by
  refine fn_d (k := 0) F sc_is_pair (fun ds G R h => ?_) (fun cdv A outer s H E ds G R hr h => ?_)
  · obtain ⟨d, t, rfl, _⟩ := h; rfl
  obtain ⟨d, t, rfl, ht, hR⟩ := h
  refine wss_ret (px_and (q := pairB d) (px_isi (T := "tuple") (T' := "tuple") mi mt (px_var 0 rfl) ht) fun hp => px_one ?_) ?_
  · rw [isS_tup] at hp
    cases d with
    | tup l =>
      refine PX.cast (px_c (pxc_eqI (px_len (n := l.length) rfl ml (px_var 0 rfl) rfl) px_int)) ?_
      match l with
      | [] => rfl
      | [_] => rfl
      | [_, _] => rfl
      | _ :: _ :: _ :: r =>
        show Dat.bl (((r.length + 1 + 1 + 1 : Nat) : Int) == 2) = Dat.bl false
        rw [beq_false_of_ne (by omega)]
    | non => cases ht; cases hp
    | bl _ => cases ht; cases hp
    | int _ => cases ht; cases hp
    | str _ => cases ht; cases hp
    | fn _ => cases ht
    | scr _ => cases ht; cases hp
    | lst _ => cases ht; cases hp
  · have e : (isS t "tuple" && pairB d) = pairB d := by
      rw [isS_tup]
      cases d with
      | tup l => cases ht; rfl
      | fn _ => cases ht
      | non => cases ht; rfl
      | bl _ => cases ht; rfl
      | int _ => cases ht; rfl
      | str _ => cases ht; rfl
      | scr _ => cases ht; rfl
      | lst _ => cases ht; rfl
    rw [e]
    exact hR
theorem ok_is_place (F : Fun K "is_place" "is_place" s_is_place f fd) (FP : Df P w K mg base "is_pair" P_is_pair 1 spPairB) (FN : Df P w K mg base "is_number" P_is_number 1 spNumber) : FnOk P w K mg base CX0 2 f fd P_is_place (liftG K spPlace) := by
  refine fn_d (k := 1) F sc_is_place (fun ds G R h => ?_) (fun cdv A outer s H E ds G R hr h => ?_)
  · obtain ⟨d, rfl, _⟩ := h; rfl
  obtain ⟨d, rfl, hk, hR⟩ := h
  obtain ⟨t, ht⟩ := known_ty hk
  by_cases hp : pairB d = true
  · obtain ⟨a, b, rfl⟩ : ∃ a b, d = .tup [a, b] := by
      unfold pairB at hp
      split at hp
      · exact ⟨_, _, rfl⟩
      · cases hp
    have hk' : ((tyS a).isSome && ((tyS b).isSome && true)) = true := hk
    rw [Bool.and_true, Bool.and_eq_true] at hk'
    obtain ⟨ta, ha⟩ := Option.isSome_iff_exists.mp hk'.1
    obtain ⟨tb, hb⟩ := Option.isSome_iff_exists.mp hk'.2
    refine wss_ret (px_and (we_df FP (hr.mono (by omega)) (pxs_cons (px_var 0 rfl) pxs_nil) ⟨_, t, rfl, ht, rfl, rfl⟩) fun _ => px_and (we_df FN (hr.mono (by omega)) (pxs_cons (px_ixT (px_var 0 rfl) px_int rfl) pxs_nil) ⟨a, ta, rfl, ha, rfl, rfl⟩) fun _ => px_one (we_df FN (hr.mono (by omega)) (pxs_cons (px_ixT (px_var 0 rfl) px_int rfl) pxs_nil) ⟨b, tb, rfl, hb, rfl, rfl⟩)) ?_
    have e : (pairB (.tup [a, b]) && ((ta == "int") && (tb == "int"))) = placeB (.tup [a, b]) := by
      cases a <;> cases ha <;> cases b <;> cases hb <;> rfl
    rw [e]
    exact hR
  · have hp' : pairB d = false := by simpa using hp
    refine wss_ret (px_and (q := true) (we_df FP (hr.mono (by omega)) (pxs_cons (px_var 0 rfl) pxs_nil) ⟨_, t, rfl, ht, rfl, rfl⟩) fun h => absurd h hp) ?_
    have e : placeB d = false := by
      unfold placeB
      split
      · cases hp'
      · rfl
    rw [hp', Bool.false_and, ← e]
    exact hR
end
end TF
--
namespace TF
open PySem PySem.Spec L2
open PyProof.Rows hiding St RelV
section
variable {P : Program} {w : World} {K : PySem.W.Frag} {mg : Str → Option Value} {base : Heap} {f : Addr} {fd : FuncData}
theorem ok_is_square {tk : Tok} (F : Fun K "is_square" "is_square" s_is_square f fd) (hL : mg "LAST_LINE" = some (.int 7 tk)) (FP : Df P w K mg base "is_place" P_is_place 2 spPlace) : FnOk P w K mg base CX0 3 f fd P_is_square (liftG K spSquareB) := by
  refine fn_d (k := 2) F sc_is_square (fun ds G R h => ?_) (fun cdv A outer s H E ds G R hr h => ?_)
  · obtain ⟨d, rfl, _⟩ := h; rfl
  obtain ⟨d, rfl, hk, hR⟩ := h
  cases hp : placeB d with
  | false =>
    refine wss_ret (px_and (p := false) (q := true) (PX.cast (we_df FP hr (pxs_cons (px_var 0 rfl) pxs_nil) ⟨d, rfl, hk, rfl, rfl⟩) (by rw [hp])) fun h => absurd h (by decide)) ?_
    have e : squareB d = false := by
      unfold squareB
      split
      · cases hp
      · rfl
    rw [e] at hR
    exact hR
  | true =>
    obtain ⟨q, rfl⟩ := place_sq hp
    refine wss_ret (px_and (p := true) (PX.cast (we_df FP hr (pxs_cons (px_var 0 rfl) pxs_nil) ⟨_, rfl, hk, rfl, rfl⟩) (by rw [hp])) fun _ => px_and (px_leLe px_int (px_ixT (px_var 0 rfl) px_int rfl) (px_gint hL)) fun _ => px_one (px_leLe px_int (px_ixT (px_var 0 rfl) px_int rfl) (px_gint hL))) ?_
    exact hR
theorem ok_is_rising (F : Fun K "is_rising" "is_rising" s_is_rising f fd) (ma : mg "all" = none) (mz : mg "zip" = none) : FnOk P w K mg base CX0 1 f fd P_is_rising (liftG K spRising) := by
  refine fn_d (k := 0) F sc_is_rising (fun ds G R h => ?_) (fun cdv A outer s H E ds G R hr h => ?_)
  · obtain ⟨l, rfl, _⟩ := h; rfl
  obtain ⟨l, rfl, hz, ho, hR⟩ := h
  have hu : (A.deeper (envOfC "is_rising" (defScope s_is_rising) s.heap.objs.size f cdv)).units + 9 < cLine := by have := hr.units; omega
  refine wss_ret (px_all (bs := (l.zip (l.drop 1)).map fun p => cmpD true p.1 p.2) rfl ma (PX.cast (px_compM (Nc := C_is_rising_0) (caps := Q_is_rising_0) (l := zipD l (l.drop 1)) (f := bPair 0 1) (fun d => match d with | .tup [x, y] => .bl (cmpD true x y) | _ => .non)
    (compSc (psc := defScope s_is_rising) (PN := N_is_rising) (by decide +kernel) rfl rfl) rfl
    (wi_zip mz (px_var 0 rfl) (PX.cast (px_sliceT (ol := some 1) (oh := none) (px_var 0 rfl) px_int trivial) (by rw [cut1])) ⟨rfl, rfl⟩)
    (fun C s' H' fp => pgd_pair 0 1 rfl (show C_is_rising_0.Nodup by decide +kernel)) (bPair_le rfl rfl) ?_ ?_) ?_)) ?_
  · unfold zipD
    rw [List.length_map, List.length_zip]
    omega
  · intro C s' H' fp G2 d hd kn
    unfold zipD at hd
    obtain ⟨p, hp, rfl⟩ := List.mem_map.mp hd
    obtain ⟨h1, h2, h3⟩ := ho p hp
    exact ⟨_, rfl, px_c (pxc_ltD hu (px_var 0 rfl) (px_var 1 rfl) h1 h2 h3)⟩
  · unfold zipD
    rw [List.map_map, List.map_map]
    rfl
  · rw [List.all_map]
    exact hR
end
end TF
--
namespace TF
open PySem PySem.Spec L2
open PyProof.Rows hiding St RelV
section
variable {P : Program} {w : World} {K : PySem.W.Frag} {mg : Str → Option Value} {base : Heap} {f : Addr} {fd : FuncData}
theorem ok_checked {B : Addr} {tk tk2 : Tok} (F : Fun K "checked" "checked" s_checked f fd) (mi : mg "isinstance" = none) (mt : mg "tuple" = none) (ml : mg "len" = none) (ma : mg "all" = none) (hM : mg "MOST_SQUARES" = some (.int 24 tk)) (hL : mg "LAST_LINE" = some (.int 7 tk2)) (hB : mg "BadFloor" = some (.ref B)) (xB : PySem.W.excIn K B [.type "ValueError", .type "Exception", .type "BaseException", .type "object"] "ValueError.__new__" = true)
    (FS : Df P w K mg base "is_square" P_is_square 3 spSquareB) (FR : Df P w K mg base "is_rising" P_is_rising 1 spRising) : FnOk P w K mg base (CXV P w) 4 f fd P_checked (liftX K (spChecked B)) := by
  refine fn_dx (k := 3) F sc_checked (fun ds G R RX h => ?_) (fun cdv A outer s H E ds G R RX hr h => ?_)
  · obtain ⟨d, rfl, _⟩ := h; rfl
  obtain ⟨d, rfl, ⟨⟨t, ht⟩, ok⟩, hR, hX⟩ := h
  by_cases htup : ¬ ∃ l, d = .tup l
  · refine wssx_if (b := true) (PXT.cast (pxt_not (pxt_val (px_isi (T := "tuple") (T' := "tuple") mi mt (px_var 0 rfl) ht))) ?_) (fun _ => ?_) (fun h => absurd h (by decide)) rfl
    · rw [isS_tup]
      cases d with
      | tup l => exact absurd ⟨l, rfl⟩ htup
      | fn _ => cases ht
      | non => cases ht; rfl
      | bl _ => cases ht; rfl
      | int _ => cases ht; rfl
      | str _ => cases ht; rfl
      | scr _ => cases ht; rfl
      | lst _ => cases ht; rfl
    · exact wssx_raise rfl rfl xB PySem.F.excBase_ValueError hB (pxs_cons px_str pxs_nil) (by simp) (hX fun ⟨M, e, _⟩ => htup ⟨_, e⟩)
  obtain ⟨l, rfl⟩ := Classical.not_not.mp htup
  cases ht
  obtain ⟨hz, hk⟩ := ok l rfl
  refine wssx_if (b := false) (PXT.cast (pxt_not (pxt_val (px_isi (T := "tuple") (T' := "tuple") mi mt (px_var 0 rfl)))) rfl) (fun h => absurd h (by decide)) (fun _ => ?_) rfl
  refine wssx_if (pxt_not (pxt_leLe px_int (px_len (n := l.length) rfl ml (px_var 0 rfl) rfl) (px_gint hM))) (fun hp => ?_) (fun hp => ?_) rfl
  · refine wssx_raise rfl rfl xB PySem.F.excBase_ValueError hB (pxs_cons (px_fs3 (px_gint hM) (by decide) (by decide +kernel) (by decide +kernel) (by decide +kernel)) pxs_nil) (by simp) (hX fun ⟨M, e, gd⟩ => ?_)
    unfold fl at e
    injection e with e
    have h1 := gd.len
    have h2 := List.length_pos_iff.mpr gd.ne
    have h3 : l.length = M.length := by rw [e, List.length_map]
    rw [decide_eq_true (show (1 : Int) ≤ (l.length : Int) by omega), decide_eq_true (show (l.length : Int) ≤ 24 by omega)] at hp
    cases hp
  have hlen : 1 ≤ l.length ∧ l.length ≤ 24 := by
    simp only [Bool.not_eq_false', Bool.and_eq_true, decide_eq_true_eq] at hp
    omega
  refine wssx_if (pxt_not (pxt_val (px_all (bs := l.map squareB) rfl ma (PX.cast (px_compM (Nc := C_checked_0) (caps := Q_checked_0) (l := l) (f := bName 0) (fun d => .bl (squareB d))
    (compSc (psc := defScope s_checked) (PN := N_checked) (by decide +kernel) rfl rfl) rfl
    (wi_tup (px_var 0 rfl) ⟨rfl, rfl⟩)
    (fun C s' H' fp => pgd_name 0 (show C_checked_0.Nodup by decide +kernel)) (bName_le rfl) (by omega) ?_) (by rw [List.map_map]; rfl))))) (fun hp => ?_) (fun hp => ?_) rfl
  · intro C s' H' fp G2 d hd kn
    exact ⟨_, rfl, we_df FS hr (pxs_cons (px_var 0 rfl) pxs_nil) ⟨d, rfl, hk d hd, rfl, rfl⟩⟩
  · refine wssx_raise rfl rfl xB PySem.F.excBase_ValueError hB (pxs_cons (px_fs2 (px_gint hL) (by decide) (by decide +kernel) (by decide +kernel)) pxs_nil) (by simp) (hX fun ⟨M, e, gd⟩ => ?_)
    unfold fl at e
    injection e with e
    subst e
    have : ((M.map sq).map squareB).all id = true := by
      rw [List.all_map, List.all_eq_true]
      intro x hx
      obtain ⟨q, hq, rfl⟩ := List.mem_map.mp hx
      exact sq_square (gd.inn q hq)
    rw [this] at hp
    cases hp
  have hall : l.all squareB = true := by
    have h2 : (l.map squareB).all id = true := by simpa using hp
    rw [List.all_map] at h2
    exact h2
  obtain ⟨M, rfl, box⟩ := all_squares hall
  rw [List.length_map] at hlen
  refine wssx_if (pxt_not (pxt_val (we_df FR (hr.mono (by omega)) (pxs_cons (px_var 0 rfl) pxs_nil) ⟨M.map sq, rfl, by rw [List.length_map]; omega, ord_sqs M, rfl, rfl⟩))) (fun hp => ?_) (fun hp => ?_) rfl
  · refine wssx_raise rfl rfl xB PySem.F.excBase_ValueError hB (pxs_cons px_str pxs_nil) (by simp) (hX fun ⟨K', e, gd⟩ => ?_)
    have := fl_inj (l := M) (m := K') e
    subst this
    rw [(ris_sq M).mpr gd.up] at hp
    cases hp
  · have hup : M.Pairwise sqLt := (ris_sq M).mp (by simpa using hp)
    exact wssx_of (wss_ret (px_var 0 rfl) (hR ⟨M, rfl, ⟨by rintro rfl; simp at hlen, hup, box, hlen.2⟩⟩)) rfl
end
end TF
--
namespace TF
open PySem PySem.Spec L2
open PyProof.Rows hiding St RelV
section
variable {P : Program} {w : World} {K : PySem.W.Frag} {mg : Str → Option Value} {base : Heap} {f : Addr} {fd : FuncData}
theorem ok_covered (F : Fun K "covered" "covered" s_covered f fd) (ms : mg "sorted" = none) : FnOk P w K mg base CX0 1 f fd P_covered (liftG K spCovered) := by
  refine fn_d (k := 0) F sc_covered (fun ds G R h => ?_) (fun cdv A outer s H E ds G R hr h => ?_)
  · obtain ⟨l, rfl, _⟩ := h; rfl
  obtain ⟨l, rfl, hz, hR⟩ := h
  have hu : (A.deeper (envOfC "covered" (defScope s_covered) s.heap.objs.size f cdv)).units + 20 < cLine := by have := hr.units; omega
  refine wss_ownL 1 sc_covered.nd pxs_nil (fun p hp => ?_)
  refine wss_for (l := l.map stone) (f := bName 2) (fun i ρ' G' => (∃ x2, ρ' = [some (lay l), some (.fn p), x2]) ∧ G' = put G p (.lst ((sqsOf (l.take i)).map sq))) PassesOwn.never rfl
    (wi_tup (px_var 0 rfl) ⟨rfl, ⟨none, rfl⟩, rfl⟩) (pgd_name 2 sc_covered.nd) ?_ ?_
  · rintro i dd ρ' G' hd ⟨⟨x2, rfl⟩, rfl⟩
    rw [List.getElem?_map] at hd
    obtain ⟨t, ht, rfl⟩ := Option.map_eq_some_iff.mp hd
    refine ⟨_, rfl, ?_⟩
    refine wss_extendT (m := [sq t.1, sq t.2]) (px_var 1 rfl) (px_var 2 rfl) put_same ?_ (wss_nil ⟨⟨_, rfl⟩, ?_⟩)
    · rw [List.length_map, sqs_len, List.length_take]
      exact sz (by simp; omega)
    · rw [put_put, List.take_add_one, ht, sqs_app, List.map_append]
      rfl
  · rintro ρ' G' ⟨⟨x2, rfl⟩, rfl⟩
    rw [List.length_map, List.take_length]
    refine wss_retE (we_rel (PX.we (px_sortedT TSq (sqsOf l) hu ms (px_var 1 rfl) (.inr ⟨p, rfl, put_same⟩) (.inl fun x => ⟨_, _, rfl⟩)) ⟨p, ?_⟩))
    rw [rel_put hp]
    exact hR
end
end TF
namespace TF
open PySem PySem.Spec L2
open PyProof.Rows hiding St RelV
theorem us_len1 {α : Type} {us : List α} (h : us.length = 1) : ∃ a, us = [a] := by
  cases us with
  | nil => simp at h
  | cons a us =>
  cases us with
  | nil => exact ⟨a, rfl⟩
  | cons z us => simp at h; try omega
theorem us_len2 {α : Type} {us : List α} (h : us.length = 2) : ∃ a b, us = [a, b] := by
  cases us with
  | nil => simp at h
  | cons a us =>
  cases us with
  | nil => simp at h
  | cons b us =>
  cases us with
  | nil => exact ⟨a, b, rfl⟩
  | cons z us => simp at h; try omega
theorem us_len3 {α : Type} {us : List α} (h : us.length = 3) : ∃ a b c, us = [a, b, c] := by
  cases us with
  | nil => simp at h
  | cons a us =>
  cases us with
  | nil => simp at h
  | cons b us =>
  cases us with
  | nil => simp at h
  | cons c us =>
  cases us with
  | nil => exact ⟨a, b, c, rfl⟩
  | cons z us => simp at h; try omega
theorem all_mk {l : PySem.W.OpenLaw} {w : World} {K : PySem.W.Frag} {h : Heap} {mg : Str → Option Value} {fa : Addr} (X : K.In h) (G : h.Ns mainGlobals mg) (hfa : mg "law" = some (.ref fa))
    {f0 : Addr} {od0 an0 : Option Addr} {sl0 : Array (Option Value)} {oc0 kV0 dc0 pm0 cd0 ct0 : Value} (a0 : PySem.W.nsIn K mainGlobals "is_number" = some (some (.ref f0))) (l0 : K.lookup f0 = some ⟨oc0, od0, .func (PySem.W.fnOf "is_number" "is_number" (defArgs s_is_number) (defBody s_is_number) (defScope s_is_number) .none kV0 dc0 pm0 an0 cd0 ct0), sl0⟩) (c0 : PySem.W.codeIn K cd0 "is_number" = true) (k0 : PySem.W.keepIn K (.ref f0) = true)
    {f1 : Addr} {od1 an1 : Option Addr} {sl1 : Array (Option Value)} {oc1 kV1 dc1 pm1 cd1 ct1 : Value} (a1 : PySem.W.nsIn K mainGlobals "is_pair" = some (some (.ref f1))) (l1 : K.lookup f1 = some ⟨oc1, od1, .func (PySem.W.fnOf "is_pair" "is_pair" (defArgs s_is_pair) (defBody s_is_pair) (defScope s_is_pair) .none kV1 dc1 pm1 an1 cd1 ct1), sl1⟩) (c1 : PySem.W.codeIn K cd1 "is_pair" = true) (k1 : PySem.W.keepIn K (.ref f1) = true)
    {f2 : Addr} {od2 an2 : Option Addr} {sl2 : Array (Option Value)} {oc2 kV2 dc2 pm2 cd2 ct2 : Value} (a2 : PySem.W.nsIn K mainGlobals "is_place" = some (some (.ref f2))) (l2 : K.lookup f2 = some ⟨oc2, od2, .func (PySem.W.fnOf "is_place" "is_place" (defArgs s_is_place) (defBody s_is_place) (defScope s_is_place) .none kV2 dc2 pm2 an2 cd2 ct2), sl2⟩) (c2 : PySem.W.codeIn K cd2 "is_place" = true) (k2 : PySem.W.keepIn K (.ref f2) = true)
    {f3 : Addr} {od3 an3 : Option Addr} {sl3 : Array (Option Value)} {oc3 kV3 dc3 pm3 cd3 ct3 : Value} (a3 : PySem.W.nsIn K mainGlobals "is_square" = some (some (.ref f3))) (l3 : K.lookup f3 = some ⟨oc3, od3, .func (PySem.W.fnOf "is_square" "is_square" (defArgs s_is_square) (defBody s_is_square) (defScope s_is_square) .none kV3 dc3 pm3 an3 cd3 ct3), sl3⟩) (c3 : PySem.W.codeIn K cd3 "is_square" = true) (k3 : PySem.W.keepIn K (.ref f3) = true)
    {f4 : Addr} {od4 an4 : Option Addr} {sl4 : Array (Option Value)} {oc4 kV4 dc4 pm4 cd4 ct4 : Value} (a4 : PySem.W.nsIn K mainGlobals "is_rising" = some (some (.ref f4))) (l4 : K.lookup f4 = some ⟨oc4, od4, .func (PySem.W.fnOf "is_rising" "is_rising" (defArgs s_is_rising) (defBody s_is_rising) (defScope s_is_rising) .none kV4 dc4 pm4 an4 cd4 ct4), sl4⟩) (c4 : PySem.W.codeIn K cd4 "is_rising" = true) (k4 : PySem.W.keepIn K (.ref f4) = true)
    {f5 : Addr} {od5 an5 : Option Addr} {sl5 : Array (Option Value)} {oc5 kV5 dc5 pm5 cd5 ct5 : Value} (a5 : PySem.W.nsIn K mainGlobals "checked" = some (some (.ref f5))) (l5 : K.lookup f5 = some ⟨oc5, od5, .func (PySem.W.fnOf "checked" "checked" (defArgs s_checked) (defBody s_checked) (defScope s_checked) .none kV5 dc5 pm5 an5 cd5 ct5), sl5⟩) (c5 : PySem.W.codeIn K cd5 "checked" = true) (k5 : PySem.W.keepIn K (.ref f5) = true)
    {f6 : Addr} {od6 an6 : Option Addr} {sl6 : Array (Option Value)} {oc6 kV6 dc6 pm6 cd6 ct6 : Value} (a6 : PySem.W.nsIn K mainGlobals "covered" = some (some (.ref f6))) (l6 : K.lookup f6 = some ⟨oc6, od6, .func (PySem.W.fnOf "covered" "covered" (defArgs s_covered) (defBody s_covered) (defScope s_covered) .none kV6 dc6 pm6 an6 cd6 ct6), sl6⟩) (c6 : PySem.W.codeIn K cd6 "covered" = true) (k6 : PySem.W.keepIn K (.ref f6) = true)
    {f7 : Addr} {od7 an7 : Option Addr} {sl7 : Array (Option Value)} {oc7 kV7 dc7 pm7 cd7 ct7 : Value} (a7 : PySem.W.nsIn K mainGlobals "signs_of" = some (some (.ref f7))) (l7 : K.lookup f7 = some ⟨oc7, od7, .func (PySem.W.fnOf "signs_of" "signs_of" (defArgs s_signs_of) (defBody s_signs_of) (defScope s_signs_of) .none kV7 dc7 pm7 an7 cd7 ct7), sl7⟩) (c7 : PySem.W.codeIn K cd7 "signs_of" = true) (k7 : PySem.W.keepIn K (.ref f7) = true)
    {f8 : Addr} {od8 an8 : Option Addr} {sl8 : Array (Option Value)} {oc8 kV8 dc8 pm8 cd8 ct8 : Value} (a8 : PySem.W.nsIn K mainGlobals "shown_row" = some (some (.ref f8))) (l8 : K.lookup f8 = some ⟨oc8, od8, .func (PySem.W.fnOf "shown_row" "shown_row" (defArgs s_shown_row) (defBody s_shown_row) (defScope s_shown_row) .none kV8 dc8 pm8 an8 cd8 ct8), sl8⟩) (c8 : PySem.W.codeIn K cd8 "shown_row" = true) (k8 : PySem.W.keepIn K (.ref f8) = true)
    {f9 : Addr} {od9 an9 : Option Addr} {sl9 : Array (Option Value)} {oc9 kV9 dc9 pm9 cd9 ct9 : Value} (a9 : PySem.W.nsIn K mainGlobals "shown" = some (some (.ref f9))) (l9 : K.lookup f9 = some ⟨oc9, od9, .func (PySem.W.fnOf "shown" "shown" (defArgs s_shown) (defBody s_shown) (defScope s_shown) .none kV9 dc9 pm9 an9 cd9 ct9), sl9⟩) (c9 : PySem.W.codeIn K cd9 "shown" = true) (k9 : PySem.W.keepIn K (.ref f9) = true)
    {f10 : Addr} {od10 an10 : Option Addr} {sl10 : Array (Option Value)} {oc10 kV10 dc10 pm10 cd10 ct10 : Value} (a10 : PySem.W.nsIn K mainGlobals "stones_in" = some (some (.ref f10))) (l10 : K.lookup f10 = some ⟨oc10, od10, .func (PySem.W.fnOf "stones_in" "stones_in" (defArgs s_stones_in) (defBody s_stones_in) (defScope s_stones_in) .none kV10 dc10 pm10 an10 cd10 ct10), sl10⟩) (c10 : PySem.W.codeIn K cd10 "stones_in" = true) (k10 : PySem.W.keepIn K (.ref f10) = true)
    {f11 : Addr} {od11 an11 : Option Addr} {sl11 : Array (Option Value)} {oc11 kV11 dc11 pm11 cd11 ct11 : Value} (a11 : PySem.W.nsIn K mainGlobals "read" = some (some (.ref f11))) (l11 : K.lookup f11 = some ⟨oc11, od11, .func (PySem.W.fnOf "read" "read" (defArgs s_read) (defBody s_read) (defScope s_read) .none kV11 dc11 pm11 an11 cd11 ct11), sl11⟩) (c11 : PySem.W.codeIn K cd11 "read" = true) (k11 : PySem.W.keepIn K (.ref f11) = true)
    {f12 : Addr} {od12 an12 : Option Addr} {sl12 : Array (Option Value)} {oc12 kV12 dc12 pm12 cd12 ct12 : Value} (a12 : PySem.W.nsIn K mainGlobals "_law_cell" = some (some (.ref f12))) (l12 : K.lookup f12 = some ⟨oc12, od12, .func (PySem.W.fnOf "_law_cell" "_law_cell" (defArgs s_law_cell) (defBody s_law_cell) (defScope s_law_cell) .none kV12 dc12 pm12 an12 cd12 ct12), sl12⟩) (c12 : PySem.W.codeIn K cd12 "_law_cell" = true) (k12 : PySem.W.keepIn K (.ref f12) = true)
    {f13 : Addr} {od13 an13 : Option Addr} {sl13 : Array (Option Value)} {oc13 kV13 dc13 pm13 cd13 ct13 : Value} (a13 : PySem.W.nsIn K mainGlobals "_law_mix" = some (some (.ref f13))) (l13 : K.lookup f13 = some ⟨oc13, od13, .func (PySem.W.fnOf "_law_mix" "_law_mix" (defArgs s_law_mix) (defBody s_law_mix) (defScope s_law_mix) .none kV13 dc13 pm13 an13 cd13 ct13), sl13⟩) (c13 : PySem.W.codeIn K cd13 "_law_mix" = true) (k13 : PySem.W.keepIn K (.ref f13) = true)
    {f14 : Addr} {od14 an14 : Option Addr} {sl14 : Array (Option Value)} {oc14 kV14 dc14 pm14 cd14 ct14 : Value} (a14 : PySem.W.nsIn K mainGlobals "_law_floor" = some (some (.ref f14))) (l14 : K.lookup f14 = some ⟨oc14, od14, .func (PySem.W.fnOf "_law_floor" "_law_floor" (defArgs s_law_floor) (defBody s_law_floor) (defScope s_law_floor) .none kV14 dc14 pm14 an14 cd14 ct14), sl14⟩) (c14 : PySem.W.codeIn K cd14 "_law_floor" = true) (k14 : PySem.W.keepIn K (.ref f14) = true)
    {f15 : Addr} {od15 an15 : Option Addr} {sl15 : Array (Option Value)} {oc15 kV15 dc15 pm15 cd15 ct15 : Value} (a15 : PySem.W.nsIn K mainGlobals "_law_near" = some (some (.ref f15))) (l15 : K.lookup f15 = some ⟨oc15, od15, .func (PySem.W.fnOf "_law_near" "_law_near" (defArgs s_law_near) (defBody s_law_near) (defScope s_law_near) .none kV15 dc15 pm15 an15 cd15 ct15), sl15⟩) (c15 : PySem.W.codeIn K cd15 "_law_near" = true) (k15 : PySem.W.keepIn K (.ref f15) = true)
    {f16 : Addr} {od16 an16 : Option Addr} {sl16 : Array (Option Value)} {oc16 kV16 dc16 pm16 cd16 ct16 : Value} (a16 : PySem.W.nsIn K mainGlobals "_law_every" = some (some (.ref f16))) (l16 : K.lookup f16 = some ⟨oc16, od16, .func (PySem.W.fnOf "_law_every" "_law_every" (defArgs s_law_every) (defBody s_law_every) (defScope s_law_every) .none kV16 dc16 pm16 an16 cd16 ct16), sl16⟩) (c16 : PySem.W.codeIn K cd16 "_law_every" = true) (k16 : PySem.W.keepIn K (.ref f16) = true)
    {f17 : Addr} {od17 an17 : Option Addr} {sl17 : Array (Option Value)} {oc17 kV17 dc17 pm17 cd17 ct17 : Value} (a17 : PySem.W.nsIn K mainGlobals "_law_all" = some (some (.ref f17))) (l17 : K.lookup f17 = some ⟨oc17, od17, .func (PySem.W.fnOf "_law_all" "_law_all" (defArgs s_law_all) (defBody s_law_all) (defScope s_law_all) .none kV17 dc17 pm17 an17 cd17 ct17), sl17⟩) (c17 : PySem.W.codeIn K cd17 "_law_all" = true) (k17 : PySem.W.keepIn K (.ref f17) = true)
    {f18 : Addr} {od18 an18 : Option Addr} {sl18 : Array (Option Value)} {oc18 kV18 dc18 pm18 cd18 ct18 : Value} (a18 : PySem.W.nsIn K mainGlobals "_law_shown" = some (some (.ref f18))) (l18 : K.lookup f18 = some ⟨oc18, od18, .func (PySem.W.fnOf "_law_shown" "_law_shown" (defArgs s_law_shown) (defBody s_law_shown) (defScope s_law_shown) .none kV18 dc18 pm18 an18 cd18 ct18), sl18⟩) (c18 : PySem.W.codeIn K cd18 "_law_shown" = true) (k18 : PySem.W.keepIn K (.ref f18) = true)
    {f19 : Addr} {od19 an19 : Option Addr} {sl19 : Array (Option Value)} {oc19 kV19 dc19 pm19 cd19 ct19 : Value} (a19 : PySem.W.nsIn K mainGlobals "law" = some (some (.ref f19))) (l19 : K.lookup f19 = some ⟨oc19, od19, .func (PySem.W.fnOf "law" "law" (defArgs s_law) (defBody s_law) (defScope s_law) .none kV19 dc19 pm19 an19 cd19 ct19), sl19⟩) (c19 : PySem.W.codeIn K cd19 "law" = true) (k19 : PySem.W.keepIn K (.ref f19) = true)
    (z_len : PySem.W.nsIn K mainGlobals "len" = some none) (z_range : PySem.W.nsIn K mainGlobals "range" = some none) (z_min : PySem.W.nsIn K mainGlobals "min" = some none) (z_max : PySem.W.nsIn K mainGlobals "max" = some none) (z_tuple : PySem.W.nsIn K mainGlobals "tuple" = some none) (z_sorted : PySem.W.nsIn K mainGlobals "sorted" = some none) (z_isinstance : PySem.W.nsIn K mainGlobals "isinstance" = some none) (z_int : PySem.W.nsIn K mainGlobals "int" = some none) (z_bool : PySem.W.nsIn K mainGlobals "bool" = some none) (z_all : PySem.W.nsIn K mainGlobals "all" = some none) (z_zip : PySem.W.nsIn K mainGlobals "zip" = some none) (z_str : PySem.W.nsIn K mainGlobals "str" = some none) (z_enumerate : PySem.W.nsIn K mainGlobals "enumerate" = some none) {t_LAST_LINE : Tok} (g_LAST_LINE : PySem.W.nsIn K mainGlobals "LAST_LINE" = some (some (.int 7 t_LAST_LINE))) {t_MOST_SQUARES : Tok} (g_MOST_SQUARES : PySem.W.nsIn K mainGlobals "MOST_SQUARES" = some (some (.int 24 t_MOST_SQUARES))) {t_MOST_SIGNS : Tok} (g_MOST_SIGNS : PySem.W.nsIn K mainGlobals "MOST_SIGNS" = some (some (.int 72 t_MOST_SIGNS))) {C_BadFloor : Addr} (n_BadFloor : PySem.W.nsIn K mainGlobals "BadFloor" = some (some (.ref C_BadFloor))) (x_BadFloor : PySem.W.excIn K C_BadFloor [.type "ValueError", .type "Exception", .type "BaseException", .type "object"] "ValueError.__new__" = true)  :
    ∃ fd : FuncData, (∀ (s : Shared) (v : Value), BindsTo s fd ⟨[v], []⟩ [("_law_script", v)]) ∧ ∀ base : Heap, K.In base → base.Ns mainGlobals mg → FnOk l.prog w K mg base CX0 16 fa fd ["_law_script"] (liftG K spTrue) := by
  have e := hfa.symm.trans (PySem.W.mg_of X G a19)
  cases e
  have m_len := PySem.W.mg_none_of X G z_len
  have m_range := PySem.W.mg_none_of X G z_range
  have m_min := PySem.W.mg_none_of X G z_min
  have m_max := PySem.W.mg_none_of X G z_max
  have m_tuple := PySem.W.mg_none_of X G z_tuple
  have m_sorted := PySem.W.mg_none_of X G z_sorted
  have m_isinstance := PySem.W.mg_none_of X G z_isinstance
  have m_int := PySem.W.mg_none_of X G z_int
  have m_bool := PySem.W.mg_none_of X G z_bool
  have m_all := PySem.W.mg_none_of X G z_all
  have m_zip := PySem.W.mg_none_of X G z_zip
  have m_str := PySem.W.mg_none_of X G z_str
  have m_enumerate := PySem.W.mg_none_of X G z_enumerate
  have i_LAST_LINE := PySem.W.mg_of X G g_LAST_LINE
  have i_MOST_SQUARES := PySem.W.mg_of X G g_MOST_SQUARES
  have i_MOST_SIGNS := PySem.W.mg_of X G g_MOST_SIGNS
  have h_BadFloor := PySem.W.mg_of X G n_BadFloor
  have F0 := fun_mk (st := s_is_number) l0 c0 k0
  have b0 := F0.binds (ps := P_is_number) fun _ _ _ _ _ _ us hl => by obtain ⟨_, rfl⟩ := us_len1 hl; rfl
  have g0 := PySem.W.mg_of X G a0
  have F1 := fun_mk (st := s_is_pair) l1 c1 k1
  have b1 := F1.binds (ps := P_is_pair) fun _ _ _ _ _ _ us hl => by obtain ⟨_, rfl⟩ := us_len1 hl; rfl
  have g1 := PySem.W.mg_of X G a1
  have F2 := fun_mk (st := s_is_place) l2 c2 k2
  have b2 := F2.binds (ps := P_is_place) fun _ _ _ _ _ _ us hl => by obtain ⟨_, rfl⟩ := us_len1 hl; rfl
  have g2 := PySem.W.mg_of X G a2
  have F3 := fun_mk (st := s_is_square) l3 c3 k3
  have b3 := F3.binds (ps := P_is_square) fun _ _ _ _ _ _ us hl => by obtain ⟨_, rfl⟩ := us_len1 hl; rfl
  have g3 := PySem.W.mg_of X G a3
  have F4 := fun_mk (st := s_is_rising) l4 c4 k4
  have b4 := F4.binds (ps := P_is_rising) fun _ _ _ _ _ _ us hl => by obtain ⟨_, rfl⟩ := us_len1 hl; rfl
  have g4 := PySem.W.mg_of X G a4
  have F5 := fun_mk (st := s_checked) l5 c5 k5
  have b5 := F5.binds (ps := P_checked) fun _ _ _ _ _ _ us hl => by obtain ⟨_, rfl⟩ := us_len1 hl; rfl
  have g5 := PySem.W.mg_of X G a5
  have F6 := fun_mk (st := s_covered) l6 c6 k6
  have b6 := F6.binds (ps := P_covered) fun _ _ _ _ _ _ us hl => by obtain ⟨_, rfl⟩ := us_len1 hl; rfl
  have g6 := PySem.W.mg_of X G a6
  have F7 := fun_mk (st := s_signs_of) l7 c7 k7
  have b7 := F7.binds (ps := P_signs_of) fun _ _ _ _ _ _ us hl => by obtain ⟨_, rfl⟩ := us_len1 hl; rfl
  have g7 := PySem.W.mg_of X G a7
  have F8 := fun_mk (st := s_shown_row) l8 c8 k8
  have b8 := F8.binds (ps := P_shown_row) fun _ _ _ _ _ _ us hl => by obtain ⟨_, _, _, rfl⟩ := us_len3 hl; rfl
  have g8 := PySem.W.mg_of X G a8
  have F9 := fun_mk (st := s_shown) l9 c9 k9
  have b9 := F9.binds (ps := P_shown) fun _ _ _ _ _ _ us hl => by obtain ⟨_, rfl⟩ := us_len1 hl; rfl
  have g9 := PySem.W.mg_of X G a9
  have F10 := fun_mk (st := s_stones_in) l10 c10 k10
  have b10 := F10.binds (ps := P_stones_in) fun _ _ _ _ _ _ us hl => by obtain ⟨_, rfl⟩ := us_len1 hl; rfl
  have g10 := PySem.W.mg_of X G a10
  have F11 := fun_mk (st := s_read) l11 c11 k11
  have b11 := F11.binds (ps := P_read) fun _ _ _ _ _ _ us hl => by obtain ⟨_, rfl⟩ := us_len1 hl; rfl
  have g11 := PySem.W.mg_of X G a11
  have F12 := fun_mk (st := s_law_cell) l12 c12 k12
  have b12 := F12.binds (ps := P_law_cell) fun _ _ _ _ _ _ us hl => by obtain ⟨_, _, rfl⟩ := us_len2 hl; rfl
  have g12 := PySem.W.mg_of X G a12
  have F13 := fun_mk (st := s_law_mix) l13 c13 k13
  have b13 := F13.binds (ps := P_law_mix) fun _ _ _ _ _ _ us hl => by obtain ⟨_, _, _, rfl⟩ := us_len3 hl; rfl
  have g13 := PySem.W.mg_of X G a13
  have F14 := fun_mk (st := s_law_floor) l14 c14 k14
  have b14 := F14.binds (ps := P_law_floor) fun _ _ _ _ _ _ us hl => by obtain ⟨_, _, rfl⟩ := us_len2 hl; rfl
  have g14 := PySem.W.mg_of X G a14
  have F15 := fun_mk (st := s_law_near) l15 c15 k15
  have b15 := F15.binds (ps := P_law_near) fun _ _ _ _ _ _ us hl => by obtain ⟨_, _, rfl⟩ := us_len2 hl; rfl
  have g15 := PySem.W.mg_of X G a15
  have F16 := fun_mk (st := s_law_every) l16 c16 k16
  have b16 := F16.binds (ps := P_law_every) fun _ _ _ _ _ _ us hl => by obtain ⟨_, _, rfl⟩ := us_len2 hl; rfl
  have g16 := PySem.W.mg_of X G a16
  have F17 := fun_mk (st := s_law_all) l17 c17 k17
  have b17 := F17.binds (ps := P_law_all) fun _ _ _ _ _ _ us hl => by obtain ⟨_, rfl⟩ := us_len1 hl; rfl
  have g17 := PySem.W.mg_of X G a17
  have F18 := fun_mk (st := s_law_shown) l18 c18 k18
  have b18 := F18.binds (ps := P_law_shown) fun _ _ _ _ _ _ us hl => by obtain ⟨_, rfl⟩ := us_len1 hl; rfl
  have g18 := PySem.W.mg_of X G a18
  have F19 := fun_mk (st := s_law) l19 c19 k19
  have g19 := PySem.W.mg_of X G a19
  refine ⟨PySem.W.fnOf "law" "law" (defArgs s_law) (defBody s_law) (defScope s_law) .none kV19 dc19 pm19 an19 cd19 ct19, fun s v => .of_eq rfl, fun base _ _ => ?_⟩
  have D_number : Df l.prog w K mg base "is_number" P_is_number 1 (spNumber) := ⟨f0, _, ok_is_number F0 m_isinstance m_int m_bool, g0, k0, b0⟩
  have A_number : ∃ f', mg "is_number" = some (.ref f') ∧ DfA l.prog w K mg base f' P_is_number 1 (spNumber) := ⟨f0, g0, _, ok_is_number F0 m_isinstance m_int m_bool, k0, b0⟩
  have D_pairB : Df l.prog w K mg base "is_pair" P_is_pair 1 (spPairB) := ⟨f1, _, ok_is_pair F1 m_isinstance m_tuple m_len, g1, k1, b1⟩
  have A_pairB : ∃ f', mg "is_pair" = some (.ref f') ∧ DfA l.prog w K mg base f' P_is_pair 1 (spPairB) := ⟨f1, g1, _, ok_is_pair F1 m_isinstance m_tuple m_len, k1, b1⟩
  have D_place : Df l.prog w K mg base "is_place" P_is_place 2 (spPlace) := ⟨f2, _, ok_is_place F2 D_pairB D_number, g2, k2, b2⟩
  have A_place : ∃ f', mg "is_place" = some (.ref f') ∧ DfA l.prog w K mg base f' P_is_place 2 (spPlace) := ⟨f2, g2, _, ok_is_place F2 D_pairB D_number, k2, b2⟩
  have D_square : Df l.prog w K mg base "is_square" P_is_square 3 (spSquareB) := ⟨f3, _, ok_is_square F3 i_LAST_LINE D_place, g3, k3, b3⟩
  have A_square : ∃ f', mg "is_square" = some (.ref f') ∧ DfA l.prog w K mg base f' P_is_square 3 (spSquareB) := ⟨f3, g3, _, ok_is_square F3 i_LAST_LINE D_place, k3, b3⟩
  have D_rising : Df l.prog w K mg base "is_rising" P_is_rising 1 (spRising) := ⟨f4, _, ok_is_rising F4 m_all m_zip, g4, k4, b4⟩
  have A_rising : ∃ f', mg "is_rising" = some (.ref f') ∧ DfA l.prog w K mg base f' P_is_rising 1 (spRising) := ⟨f4, g4, _, ok_is_rising F4 m_all m_zip, k4, b4⟩
  have X_checked : DfX l.prog w K mg base "checked" P_checked 4 (spChecked C_BadFloor) := ⟨f5, _, ok_checked F5 m_isinstance m_tuple m_len m_all i_MOST_SQUARES i_LAST_LINE h_BadFloor x_BadFloor D_square D_rising, g5, k5, b5⟩
  have D_covered : Df l.prog w K mg base "covered" P_covered 1 (spCovered) := ⟨f6, _, ok_covered F6 m_sorted, g6, k6, b6⟩
  have A_covered : ∃ f', mg "covered" = some (.ref f') ∧ DfA l.prog w K mg base f' P_covered 1 (spCovered) := ⟨f6, g6, _, ok_covered F6 m_sorted, k6, b6⟩
  have D_signs : Df l.prog w K mg base "signs_of" P_signs_of 1 (spSigns) := ⟨f7, _, ok_signs_of F7, g7, k7, b7⟩
  have A_signs : ∃ f', mg "signs_of" = some (.ref f') ∧ DfA l.prog w K mg base f' P_signs_of 1 (spSigns) := ⟨f7, g7, _, ok_signs_of F7, k7, b7⟩
  have D_rowS : Df l.prog w K mg base "shown_row" P_shown_row 1 (spRowS) := ⟨f8, _, ok_shown_row F8 m_range, g8, k8, b8⟩
  have A_rowS : ∃ f', mg "shown_row" = some (.ref f') ∧ DfA l.prog w K mg base f' P_shown_row 1 (spRowS) := ⟨f8, g8, _, ok_shown_row F8 m_range, k8, b8⟩
  have D_shown : Df l.prog w K mg base "shown" P_shown 2 (spShown) := ⟨f9, _, ok_shown F9 m_range m_max D_signs D_rowS, g9, k9, b9⟩
  have A_shown : ∃ f', mg "shown" = some (.ref f') ∧ DfA l.prog w K mg base f' P_shown 2 (spShown) := ⟨f9, g9, _, ok_shown F9 m_range m_max D_signs D_rowS, k9, b9⟩
  have D_stones : Df l.prog w K mg base "stones_in" P_stones_in 1 (spStones) := ⟨f10, _, ok_stones_in F10 m_enumerate m_tuple, g10, k10, b10⟩
  have A_stones : ∃ f', mg "stones_in" = some (.ref f') ∧ DfA l.prog w K mg base f' P_stones_in 1 (spStones) := ⟨f10, g10, _, ok_stones_in F10 m_enumerate m_tuple, k10, b10⟩
  have D_read : Df l.prog w K mg base "read" P_read 5 (spRead) := ⟨f11, _, ok_read F11 m_isinstance m_str m_len m_tuple i_MOST_SIGNS h_BadFloor x_BadFloor D_stones X_checked D_covered D_shown, g11, k11, b11⟩
  have A_read : ∃ f', mg "read" = some (.ref f') ∧ DfA l.prog w K mg base f' P_read 5 (spRead) := ⟨f11, g11, _, ok_read F11 m_isinstance m_str m_len m_tuple i_MOST_SIGNS h_BadFloor x_BadFloor D_stones X_checked D_covered D_shown, k11, b11⟩
  have D_law_cell : Df l.prog w K mg base "_law_cell" P_law_cell 1 (spCell) := ⟨f12, _, ok_law_cell F12 m_len, g12, k12, b12⟩
  have A_law_cell : ∃ f', mg "_law_cell" = some (.ref f') ∧ DfA l.prog w K mg base f' P_law_cell 1 (spCell) := ⟨f12, g12, _, ok_law_cell F12 m_len, k12, b12⟩
  have D_law_mix : Df l.prog w K mg base "_law_mix" P_law_mix 1 (spMix) := ⟨f13, _, ok_law_mix F13, g13, k13, b13⟩
  have A_law_mix : ∃ f', mg "_law_mix" = some (.ref f') ∧ DfA l.prog w K mg base f' P_law_mix 1 (spMix) := ⟨f13, g13, _, ok_law_mix F13, k13, b13⟩
  have D_law_floor : Df l.prog w K mg base "_law_floor" P_law_floor 2 (spFloor) := ⟨f14, _, ok_law_floor F14 m_len m_range m_tuple m_max m_min D_law_cell D_law_mix, g14, k14, b14⟩
  have A_law_floor : ∃ f', mg "_law_floor" = some (.ref f') ∧ DfA l.prog w K mg base f' P_law_floor 2 (spFloor) := ⟨f14, g14, _, ok_law_floor F14 m_len m_range m_tuple m_max m_min D_law_cell D_law_mix, k14, b14⟩
  have D_law_near : Df l.prog w K mg base "_law_near" P_law_near 1 (spNear) := ⟨f15, _, ok_law_near F15, g15, k15, b15⟩
  have A_law_near : ∃ f', mg "_law_near" = some (.ref f') ∧ DfA l.prog w K mg base f' P_law_near 1 (spNear) := ⟨f15, g15, _, ok_law_near F15, k15, b15⟩
  have D_law_every : ∀ n, Df l.prog w K mg base "_law_every" P_law_every (n + 2) (spEvery n) := by
    intro n
    induction n with
    | zero => exact ⟨f16, _, ok_law_every 0 F16 m_tuple D_law_near (fun m h => by cases h), g16, k16, b16⟩
    | succ m ih => exact ⟨f16, _, ok_law_every (m + 1) F16 m_tuple D_law_near (fun m' h => by cases h; exact ih), g16, k16, b16⟩
  have D_law_all : Df l.prog w K mg base "_law_all" P_law_all 15 (spAll) := ⟨f17, _, ok_law_all F17 m_tuple m_sorted (D_law_every 12), g17, k17, b17⟩
  have A_law_all : ∃ f', mg "_law_all" = some (.ref f') ∧ DfA l.prog w K mg base f' P_law_all 15 (spAll) := ⟨f17, g17, _, ok_law_all F17 m_tuple m_sorted (D_law_every 12), k17, b17⟩
  have D_lshown : Df l.prog w K mg base "_law_shown" P_law_shown 1 (spShown) := ⟨f18, _, ok_law_shown F18 m_range m_max m_int, g18, k18, b18⟩
  have A_lshown : ∃ f', mg "_law_shown" = some (.ref f') ∧ DfA l.prog w K mg base f' P_law_shown 1 (spShown) := ⟨f18, g18, _, ok_law_shown F18 m_range m_max m_int, k18, b18⟩
  exact ok_law F19 m_isinstance m_str m_len D_law_floor D_law_cell D_law_all D_shown D_lshown D_read
theorem walk {l : PySem.W.OpenLaw} {q : Program} {loose : List Str} {XP : (Str → Option Value) → Heap → Prop} {YP : World → Heap → Prop} {d : DefRec} {K : Params → PySem.W.Frag} (hn : l.most = some 63) (hdf : d.params.defaults = [])
    (hY : ∀ (w : World) (h : Heap), YP w h → (K w.params).In h)
    (F : ∀ (w : World) (mg : Str → Option Value) (fa : Addr) (h : Heap), (K w.params).In h → h.Ns mainGlobals mg → mg d.name = some (.ref fa) →
      ∃ fd : FuncData, (∀ (s : Shared) (u : Value), BindsTo s fd ⟨[u], []⟩ [("_law_script", u)]) ∧ ∀ base : Heap, (K w.params).In base → base.Ns mainGlobals mg → FnOk l.prog w (K w.params) mg base CX0 16 fa fd ["_law_script"] (liftG (K w.params) spTrue)) :
    PySem.W.WalkO q loose XP YP l.row.toRowW d [] (fun f vs => PySem.call f vs) :=
  L2.walk_of (n := 63) (k := 16) (x := "_law_script") (CX := fun _ => CX0) (sp := fun w => liftG (K w.params) spTrue) hn (by decide) hdf ⟨rfl, by decide, by decide⟩ hY F
    (fun w H a ns hl _ hS => ⟨[.scr ns], g0, fun d _ => d = .bl true, g0_ok, RepL.cons (by rw [hid_g0, Rep]; exact ⟨a, rfl, hS⟩) RepL.nil, ⟨ns, rfl, rfl⟩, fun v H' d G' _ _ r q => by
      subst q
      rw [Rep] at r
      exact r⟩) fun _ _ _ _ _ z => z
end TF
open PySem PySem.W PyProof.Rows
set_option maxRecDepth 100000 in
set_option maxHeartbeats 0 in
theorem PySem.Challenge.cw_tilefloor_k13_texts_holds : PySem.Challenge.rw_tilefloor_k13_texts.Holds := by
  w_on; o_law; k_head; (case hw => w_witness2)
  k_fill
  refine TF.walk (l := PySem.Challenge.rw_tilefloor_k13_texts) rfl rfl (fun w h Y => PySem.W.kIn_of Y) ?F
  case F =>
    intro w mg fa h KX G hmg
    refine' TF.all_mk KX G hmg ?a0 ?l0 ?c0 ?k0 ?a1 ?l1 ?c1 ?k1 ?a2 ?l2 ?c2 ?k2 ?a3 ?l3 ?c3 ?k3 ?a4 ?l4 ?c4 ?k4 ?a5 ?l5 ?c5 ?k5 ?a6 ?l6 ?c6 ?k6 ?a7 ?l7 ?c7 ?k7 ?a8 ?l8 ?c8 ?k8 ?a9 ?l9 ?c9 ?k9 ?a10 ?l10 ?c10 ?k10 ?a11 ?l11 ?c11 ?k11 ?a12 ?l12 ?c12 ?k12 ?a13 ?l13 ?c13 ?k13 ?a14 ?l14 ?c14 ?k14 ?a15 ?l15 ?c15 ?k15 ?a16 ?l16 ?c16 ?k16 ?a17 ?l17 ?c17 ?k17 ?a18 ?l18 ?c18 ?k18 ?a19 ?l19 ?c19 ?k19 ?z_len ?z_range ?z_min ?z_max ?z_tuple ?z_sorted ?z_isinstance ?z_int ?z_bool ?z_all ?z_zip ?z_str ?z_enumerate ?g_LAST_LINE ?g_MOST_SQUARES ?g_MOST_SIGNS ?n_BadFloor ?x_BadFloor 
    (case a0 => k_is); (case l0 => k_is); (case c0 => k_is); (case k0 => k_is)
    (case a1 => k_is); (case l1 => k_is); (case c1 => k_is); (case k1 => k_is)
    (case a2 => k_is); (case l2 => k_is); (case c2 => k_is); (case k2 => k_is)
    (case a3 => k_is); (case l3 => k_is); (case c3 => k_is); (case k3 => k_is)
    (case a4 => k_is); (case l4 => k_is); (case c4 => k_is); (case k4 => k_is)
    (case a5 => k_is); (case l5 => k_is); (case c5 => k_is); (case k5 => k_is)
    (case a6 => k_is); (case l6 => k_is); (case c6 => k_is); (case k6 => k_is)
    (case a7 => k_is); (case l7 => k_is); (case c7 => k_is); (case k7 => k_is)
    (case a8 => k_is); (case l8 => k_is); (case c8 => k_is); (case k8 => k_is)
    (case a9 => k_is); (case l9 => k_is); (case c9 => k_is); (case k9 => k_is)
    (case a10 => k_is); (case l10 => k_is); (case c10 => k_is); (case k10 => k_is)
    (case a11 => k_is); (case l11 => k_is); (case c11 => k_is); (case k11 => k_is)
    (case a12 => k_is); (case l12 => k_is); (case c12 => k_is); (case k12 => k_is)
    (case a13 => k_is); (case l13 => k_is); (case c13 => k_is); (case k13 => k_is)
    (case a14 => k_is); (case l14 => k_is); (case c14 => k_is); (case k14 => k_is)
    (case a15 => k_is); (case l15 => k_is); (case c15 => k_is); (case k15 => k_is)
    (case a16 => k_is); (case l16 => k_is); (case c16 => k_is); (case k16 => k_is)
    (case a17 => k_is); (case l17 => k_is); (case c17 => k_is); (case k17 => k_is)
    (case a18 => k_is); (case l18 => k_is); (case c18 => k_is); (case k18 => k_is)
    (case a19 => k_is); (case l19 => k_is); (case c19 => k_is); (case k19 => k_is)
    (case z_len => k_is)
    (case z_range => k_is)
    (case z_min => k_is)
    (case z_max => k_is)
    (case z_tuple => k_is)
    (case z_sorted => k_is)
    (case z_isinstance => k_is)
    (case z_int => k_is)
    (case z_bool => k_is)
    (case z_all => k_is)
    (case z_zip => k_is)
    (case z_str => k_is)
    (case z_enumerate => k_is)
    (case g_LAST_LINE => k_is)
    (case g_MOST_SQUARES => k_is)
    (case g_MOST_SIGNS => k_is)
    (case n_BadFloor => k_is); (case x_BadFloor => k_exc)
