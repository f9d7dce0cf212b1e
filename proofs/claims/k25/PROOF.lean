import PyProof.Rows.All
import Wide.All
import OpenK.AllK
import Wide.FinOn
import Lean
import PyProof.EqAt
import PyProof.EqKinds
import PyProof.TupleCall
import KE.IntBitsLaws
import PyProof.ZipIter
import PyProof.ListMulRoad
import PyProof.AutoListH
import PyProof.Rows.SeqMore
import PyProof.Rows.SumAny
import PyProof.SliceStr2
import PyProof.WalksMore
import KE.KSortTup
import PyProof.StrBlockG
import PyProof.Rows.Digits
import PyProof.Rows.StrOr
import PyProof.StrCalls2
import PyProof.StrBlock2
import KE.KIntText
import KE.KRevIter
import KE.LcSums
import PyProof.AttrMissHeap
import PyProof.TupleIter
import KE.KDictOf
import PyProof.DictWalks
import PyProof.DictValues
import KE.KDictList
import PyProof.Rows.MinMaxN
import PyProof.Rows.TupDisplay
import PyProof.DictTruth
import PyProof.Rows.SortRev
import PyProof.Rows.CallKwBuiltin
import PySem.Challenge.RW_earlystop_k25_bounds_of_rules
set_option Elab.async false
set_option linter.all false
set_option maxRecDepth 100000
/-! THE HAND LAYER, for ints, bools, texts, own classes, LISTS and tuples (index, slices, in, append, pop ..), calls, loops. Paste it whole ahead of your own text; what your proof does not reach may be deleted. -/
namespace L2
open PySem PySem.Spec PyProof.Rows
/-- a key: an int or a str -/
abbrev Key := Sum Int Str
def keyIs : Key → Value → Bool
  | .inl k, v => Value.isInt k v
  | .inr x, v => Value.isStrOf x v
def keyH (w : World) : Key → Int
  | .inl k => hashInt k
  | .inr x => hashStr w x
theorem keyIs_shape : ∀ {k : Key} {v : Value}, keyIs k v = true → (∃ i t, k = Sum.inl i ∧ v = Value.int i t) ∨ (∃ x t, k = Sum.inr x ∧ v = Value.str x t)
  | .inl i, v, h => by
    obtain ⟨t, e⟩ := Value.isInt_shape (k := i) (v := v) h
    exact .inl ⟨i, t, rfl, e⟩
  | .inr x, v, h => by
    obtain ⟨t, e⟩ := Value.isStrOf_shape (x := x) (v := v) h
    exact .inr ⟨x, t, rfl, e⟩
theorem keyIs_int (i : Int) (t : Tok) : keyIs (.inl i) (.int i t) = true := by simp [keyIs, Value.isInt]
theorem keyIs_str (x : Str) (t : Tok) : keyIs (.inr x) (.str x t) = true := by simp [keyIs, Value.isStrOf]
theorem key_ll (a b : Int) : decide ((Sum.inl a : Key) = Sum.inl b) = (a == b) := by
  by_cases e : a = b
  · subst e; simp
  · have h : ¬ (Sum.inl a : Key) = Sum.inl b := fun q => e (Sum.inl.inj q)
    rw [decide_eq_false h]
    exact (beq_eq_false_iff_ne.mpr e).symm
theorem key_rr (a b : Str) : decide ((Sum.inr a : Key) = Sum.inr b) = decide (a = b) := by
  by_cases e : a = b
  · subst e; simp
  · have h : ¬ (Sum.inr a : Key) = Sum.inr b := fun q => e (Sum.inr.inj q)
    rw [decide_eq_false h, decide_eq_false e]
theorem key_lr (a : Int) (b : Str) : decide ((Sum.inl a : Key) = Sum.inr b) = false := decide_eq_false (fun q => nomatch q)
theorem key_rl (a : Str) (b : Int) : decide ((Sum.inr a : Key) = Sum.inl b) = false := decide_eq_false (fun q => nomatch q)
def mixKind (prog : Program) (w : World) : PySem.KeyKind prog w Key where
  is := keyIs
  hash := keyH w
  inj := fun v a b ha hb => by
    rcases keyIs_shape ha with ⟨i, t, rfl, rfl⟩ | ⟨x, t, rfl, rfl⟩
    · rcases keyIs_shape hb with ⟨j, u, rfl, e⟩ | ⟨y, u, rfl, e⟩
      · injection e with e1 _; rw [e1]
      · exact nomatch e
    · rcases keyIs_shape hb with ⟨j, u, rfl, e⟩ | ⟨y, u, rfl, e⟩
      · exact nomatch e
      · injection e with e1 _; rw [e1]
  byValue := fun k v h => by
    rcases keyIs_shape h with ⟨i, t, rfl, rfl⟩ | ⟨x, t, rfl, rfl⟩ <;> rfl
  pyHash := fun hv h => by
    rcases keyIs_shape hv with ⟨i, t, rfl, rfl⟩ | ⟨x, t, rfl, rfl⟩
    · exact wpAny_pyHash_int h
    · exact wpAny_pyHash_str h
  eqBool := fun hu hv h => by
    rcases keyIs_shape hu with ⟨i, t, rfl, rfl⟩ | ⟨x, t, rfl, rfl⟩
    · rcases keyIs_shape hv with ⟨j, u, rfl, rfl⟩ | ⟨y, u, rfl, rfl⟩
      · rw [key_ll] at h; exact wpAny_eqBool_int h
      · rw [key_lr] at h; exact SeqAt.EqAt.int_str i t y u _ _ _ _ h
    · rcases keyIs_shape hv with ⟨j, u, rfl, rfl⟩ | ⟨y, u, rfl, rfl⟩
      · rw [key_rl] at h; exact SeqAt.EqAt.str_int x t j u _ _ _ _ h
      · rw [key_rr] at h; exact wpAny_eqBool_str h
  «strs» := fun k x t v h => by
    rcases keyIs_shape h with ⟨i, u, rfl, e⟩ | ⟨y, u, rfl, e⟩
    · exact nomatch e
    · injection e with e1 _
      subst e1
      cases v <;> rfl
theorem mixKind_int (prog : Program) (w : World) (i : Int) (t : Tok) : (mixKind prog w).is (.inl i) (.int i t) = true := keyIs_int i t
theorem mixKind_str (prog : Program) (w : World) (x : Str) (t : Tok) : (mixKind prog w).is (.inr x) (.str x t) = true := keyIs_str x t
end L2
namespace L2
open PySem PySem.Spec PyProof.Rows
/-- a value, without the heap -/
inductive V where
  | non | bl (b : Bool) | int (i : Int) | str (x : Str) | byt (b : Array UInt8) | flt (b : UInt64) | ref (a : Addr) | ty (n : String)
  deriving DecidableEq
def RelV : V → Value → Prop
  | .non, u => u = Value.none
  | .bl b, u => u = Value.bool b
  | .int i, u => ∃ t, u = Value.int i t
  | .str x, u => ∃ t, u = Value.str x t
  | .byt b, u => ∃ t, u = Value.bytes b t
  | .flt b, u => ∃ t, u = Value.float b t
  | .ref a, u => u = Value.ref a
  | .ty n, u => u = Value.type n
abbrev Vals : List V → List Value → Prop := Paired RelV
theorem Vals.length {xs : List V} {us : List Value} (r : Vals xs us) : xs.length = us.length := Paired.length r
theorem Vals.get : ∀ {xs : List V} {us : List Value} {i : Nat} {x : V}, Vals xs us → xs[i]? = some x → ∃ u, us[i]? = some u ∧ RelV x u
  | _, _, _, _, .nil, e => by simp at e
  | _, _, 0, _, .cons r _, e => by simp at e; subst e; exact ⟨_, rfl, r⟩
  | _, _, i + 1, x, .cons _ t, e => by
    obtain ⟨u, h1, h2⟩ := Vals.get (i := i) (x := x) t (by simpa using e)
    exact ⟨u, by simpa using h1, h2⟩
theorem Vals.set {x : V} {u : Value} (r : RelV x u) : ∀ {xs : List V} {us : List Value} (i : Nat), Vals xs us → Vals (xs.set i x) (us.set i u)
  | _, _, _, .nil => .nil
  | _, _, 0, .cons _ t => .cons r t
  | _, _, i + 1, .cons q t => .cons q (Vals.set r i t)
theorem Vals.append : ∀ {xs ys : List V} {us ws : List Value}, Vals xs us → Vals ys ws → Vals (xs ++ ys) (us ++ ws)
  | _, _, _, _, .nil, s => s
  | _, _, _, _, .cons r t, s => .cons r (Vals.append t s)
theorem Vals.take : ∀ {xs : List V} {us : List Value} (n : Nat), Vals xs us → Vals (xs.take n) (us.take n)
  | _, _, 0, _ => .nil
  | _, _, _ + 1, .nil => .nil
  | _, _, n + 1, .cons r t => .cons r (Vals.take n t)
theorem Vals.drop : ∀ {xs : List V} {us : List Value} (n : Nat), Vals xs us → Vals (xs.drop n) (us.drop n)
  | _, _, 0, r => r
  | _, _, _ + 1, .nil => .nil
  | _, _, n + 1, .cons _ t => Vals.drop n t
def RelO : Option V → Option Value → Prop
  | some v, some u => RelV v u
  | none, none => True
  | _, _ => False
def KV {κ : Type} : List (κ × V) → List (κ × Value) → Prop := Paired fun (p : κ × V) (q : κ × Value) => p.1 = q.1 ∧ RelV p.2 q.2
/-- a key of a dict (00_mix): an int or a text -/
def kV : Key → V
  | .inl i => .int i
  | .inr x => .str x
/-- what stands at a tracked address -/
inductive HO where
  /-- a list -/
  | lst (xs : List V)
  /-- a tuple (never changes) -/
  | tup (xs : List V)
  /-- a dict whose keys are ints and texts; one whose keys are tuples of ints and texts (the empty one is both) -/
  | dK (kvs : List (Key × V)) | dT (kvs : List (List Key × V))
  /-- a set of ints: its members, its size -/
  | set (S : Int → Bool) (n : Nat)
  /-- an instance of the class at C, its dict at dx, its attributes -/
  | ins (C dx : Addr) (fs : List (Str × V))
  /-- the dict of the instance at x -/
  | own (x : Addr)
  /-- the dict of an exception -/
  | xd (fs : List (Str × V))
  /-- a bound method, f of x -/
  | met (f x : Addr)
  /-- a range object lo, lo + 1, .. below hi -/
  | rng (lo hi : Int)
  /-- a thing that is known to the object (the script; a dict while a loop walks it): read, never written while it is so -/
  | frz (o : Obj) (u : HO)
  /-- a code object's table -/
  | tbl (ps : Array Value)
  /-- any other thing, by what is true of its one object (a def of one's own: SetO a S n := HO.ext fun h => ..) -/
  | ext (φ : Heap → Prop)
abbrev Hp := Addr → Option HO
def upd (H : Hp) (a : Addr) (o : HO) : Hp := fun b => if b = a then some o else H b
theorem upd_same {H : Hp} {a : Addr} {o : HO} : upd H a o a = some o := by unfold upd; rw [if_pos rfl]
theorem upd_ne {H : Hp} {a b : Addr} {o : HO} (h : b ≠ a) : upd H a o b = H b := by unfold upd; rw [if_neg h]
/-- two objects of different content stand apart -/
theorem ne_of {H : Hp} {a b : Addr} {o u : HO} (h : H a = some o) (h' : H b = some u) (d : o ≠ u) : a ≠ b := by
  intro e; subst e; rw [h] at h'; exact d (Option.some.inj h')
theorem ne_of_none {H : Hp} {a b : Addr} {o : HO} (h : H a = some o) (h' : H b = none) : a ≠ b := by
  intro e; subst e; rw [h] at h'; cases h'
section
variable (P : Program) (w : World)
def ObjOk (H : Hp) (h : Heap) (a : Addr) : HO → Prop
  | .lst xs => xs.length ≤ sizeLine ∧ ∃ (its : List Value) (n : Nat), Vals xs its ∧ h.get? a = some { cls := .type "list", data := .seq its.toArray n }
  | .tup xs => (xs.length ≤ sizeLine ∧ ∃ o, h.get? a = some o ∧ o.dict = none) ∧ ∃ its : List Value, Vals xs its ∧ IsTup h a its.toArray
  | .dK kvs => kvs.length ≤ sizeLine ∧ (a == sysModules) = false ∧ ∃ vs, KV kvs vs ∧ h.DictOf (mixKind P w) a vs
  | .dT kvs => kvs.length ≤ sizeLine ∧ (a == sysModules) = false ∧ ∃ xs : List (List Key × Addr × Value),
      Paired (fun (p : List Key × V) (q : List Key × Addr × Value) => p.1 = q.1 ∧ H q.2.1 = some (.tup (p.1.map kV)) ∧ RelV p.2 q.2.2) kvs xs ∧
      ∃ o es ep, h.get? a = some o ∧ o.ExactDict ∧ o.data = .dict es ep ∧ es.toList = xs.map (entryOfKey (tupleKind (mixKind P w))) ∧ (xs.map (·.1)).Nodup
  | .set S n => h.SetOf (intKind P w) a S n
  | .ins C dx fs => H dx = some (.own a) ∧ fs.length ≤ 1000 ∧ dx ≠ a ∧ h.get? a = some (PySem.W.instObj C dx) ∧
      ∃ mA, h.Ns1 dx mA ∧ (∀ f, RelO (fs.lookup f) (mA f)) ∧ PySem.Within mA (fs.map (·.1))
  | .own _ => ∃ o, h.get? a = some o
  | .xd fs => ∃ mA, h.Ns1 a mA ∧ ∀ f, RelO (fs.lookup f) (mA f)
  | .rng lo hi => ∃ t u v, h.get? a = some { cls := .type "range", data := .fields #[.int lo t, .int hi u, .int 1 v] }
  | .frz o u => h.get? a = some o ∧ ObjOk H h a u
  | .tbl ps => h.get? a = some { cls := .none, data := .fields ps }
  | .met f x => h.get? a = some (PySem.W.methodObj (.ref f) (.ref x))
  | .ext φ => φ h ∧ (∃ o, h.get? a = some o) ∧ ∀ h1 h2 : Heap, φ h1 → (∀ o, h1.get? a = some o → h2.get? a = some o) → φ h2
/-- the abstract heap is held -/
def HOk (H : Hp) (h : Heap) : Prop := ∀ a o, H a = some o → ObjOk P w H h a o
end
section
variable {P : Program} {w : World} {H H' : Hp} {h h' : Heap} {a : Addr} {o : HO}
theorem ObjOk.lt (x : ObjOk P w H h a o) : a < h.objs.size := by
  cases o with
  | lst xs => obtain ⟨_, _, _, _, e⟩ := x; exact Heap.lt_size e
  | tup xs => obtain ⟨_, _, _, p⟩ := x; exact p.lt
  | dK kvs => obtain ⟨_, _, _, _, o, _, _, e, _⟩ := x; exact Heap.lt_size e
  | dT kvs => obtain ⟨_, _, _, _, o, _, _, e, _⟩ := x; exact Heap.lt_size e
  | set S n => obtain ⟨o, _, _, _, e, _⟩ := x; exact Heap.lt_size e
  | ins C dx fs => obtain ⟨_, _, _, e, _⟩ := x; exact Heap.lt_size e
  | own y => obtain ⟨_, e⟩ := x; exact Heap.lt_size e
  | xd fs => obtain ⟨_, ⟨_, _, _, e, _⟩, _⟩ := x; exact Heap.lt_size e
  | rng lo hi => obtain ⟨_, _, _, e⟩ := x; exact Heap.lt_size e
  | frz ob u => obtain ⟨e, _⟩ := x; exact Heap.lt_size e
  | tbl ps => exact Heap.lt_size (show h.get? a = some _ from x)
  | met f y => exact Heap.lt_size (show h.get? a = some _ from x)
  | ext φ => obtain ⟨_, ⟨_, e⟩, _⟩ := x; exact Heap.lt_size e
theorem Paired.mapP {α β : Type} {F G : α → β → Prop} : ∀ {l₁ : List α} {l₂ : List β}, Paired F l₁ l₂ → (∀ a b, F a b → G a b) → Paired G l₁ l₂
  | _, _, .nil, _ => .nil
  | _, _, .cons r t, f => .cons (f _ _ r) (Paired.mapP t f)
/-- what an object's description leans on: its own object, its own dict, the tuples -/
theorem ObjOk.stay (x : ObjOk P w H h a o) (k : ∀ b u, (b = a ∨ H b = some (.own a)) → h.get? b = some u → h'.get? b = some u)
    (ho : ∀ b, H b = some (.own a) → H' b = some (.own a)) (ht : ∀ b xs, H b = some (.tup xs) → H' b = some (.tup xs)) : ObjOk P w H' h' a o := by
  induction o with
  | lst xs => obtain ⟨z, its, n, r, e⟩ := x; exact ⟨z, its, n, r, k _ _ (.inl rfl) e⟩
  | tup xs => obtain ⟨⟨z, on, en, dn⟩, its, r, ob, e, c⟩ := x; exact ⟨⟨z, on, k _ _ (.inl rfl) en, dn⟩, its, r, ob, k _ _ (.inl rfl) e, c⟩
  | dK kvs => obtain ⟨z, y, vs, r, ob, es, ep, e, c⟩ := x; exact ⟨z, y, vs, r, ob, es, ep, k _ _ (.inl rfl) e, c⟩
  | dT kvs =>
    obtain ⟨z, y, xs, r, ob, es, ep, e, c⟩ := x
    exact ⟨z, y, xs, Paired.mapP r fun p q z => ⟨z.1, ht _ _ z.2.1, z.2.2⟩, ob, es, ep, k _ _ (.inl rfl) e, c⟩
  | set S n => obtain ⟨ob, es, ep, t, e, c⟩ := x; exact ⟨ob, es, ep, t, k _ _ (.inl rfl) e, c⟩
  | ins C dx fs =>
    obtain ⟨d, z, ne, e, mA, ⟨od, es, ep, e2, c⟩, r⟩ := x
    exact ⟨ho _ d, z, ne, k _ _ (.inl rfl) e, mA, ⟨od, es, ep, k _ _ (.inr d) e2, c⟩, r⟩
  | own y => obtain ⟨ob, e⟩ := x; exact ⟨ob, k _ _ (.inl rfl) e⟩
  | xd fs => obtain ⟨mA, ⟨od, es, ep, e, c⟩, r⟩ := x; exact ⟨mA, ⟨od, es, ep, k _ _ (.inl rfl) e, c⟩, r⟩
  | rng lo hi => obtain ⟨t, u, v, e⟩ := x; exact ⟨t, u, v, k _ _ (.inl rfl) e⟩
  | frz ob u ih => obtain ⟨e, q⟩ := x; exact ⟨k _ _ (.inl rfl) e, ih q⟩
  | tbl ps =>
    have e : h.get? a = some { cls := .none, data := .fields ps } := x
    show h'.get? a = some { cls := .none, data := .fields ps }
    exact k a _ (.inl rfl) e
  | met f y =>
    have e : h.get? a = some (PySem.W.methodObj (.ref f) (.ref y)) := x
    show h'.get? a = some (PySem.W.methodObj (.ref f) (.ref y))
    exact k a _ (.inl rfl) e
  | ext φ => obtain ⟨p, ⟨o, e⟩, st⟩ := x; exact ⟨st _ _ p fun o q => k _ _ (.inl rfl) q, ⟨o, k _ _ (.inl rfl) e⟩, st⟩
theorem HOk.lt (x : HOk P w H h) (e : H a = some o) : a < h.objs.size := (x a o e).lt
theorem HOk.fresh (x : HOk P w H h) (e : h.objs.size ≤ a) : H a = none := by
  cases q : H a with
  | none => rfl
  | some u => exact absurd (Nat.lt_of_lt_of_le (x.lt q) e) (Nat.lt_irrefl _)
/-- every object of the heap is kept -/
theorem HOk.kept (x : HOk P w H h) (k : ∀ b u, h.get? b = some u → h'.get? b = some u) : HOk P w H h' := fun a o e =>
  (x a o e).stay (fun b u _ q => k b u q) (fun _ q => q) fun _ _ q => q
/-- a new object is laid and tracked -/
theorem HOk.laid (x : HOk P w H h) (k : ∀ b u, h.get? b = some u → h'.get? b = some u) (hp : h.objs.size ≤ a) (new : ObjOk P w (upd H a o) h' a o) : HOk P w (upd H a o) h' := fun b u e => by
  have hn := x.fresh hp
  by_cases hb : b = a
  · subst hb; rw [upd_same] at e; cases e; exact new
  · rw [upd_ne hb] at e
    exact (x b u e).stay (fun c v _ q => k c v q) (fun c q => by rw [upd_ne (ne_of_none q hn)]; exact q) fun c xs q => by rw [upd_ne (ne_of_none q hn)]; exact q
end
/-- what may be read as u: it is u, or a known u -/
def Rd (H : Hp) (a : Addr) (u : HO) : Prop := H a = some u ∨ ∃ o, H a = some (.frz o u)
theorem Rd.ok {P : Program} {w : World} {H : Hp} {h : Heap} {a : Addr} {u : HO} (r : Rd H a u) (x : HOk P w H h) : ObjOk P w H h a u := by
  rcases r with r | ⟨o, r⟩
  · exact x a u r
  · obtain ⟨_, q⟩ := x a _ r
    exact q
/-- what may be written -/
def Mut : Option HO → Prop
  | some (.lst _) => True
  | some (.dK _) => True
  | some (.dT _) => True
  | some (.set _ _) => True
  | some (.ins _ _ _) => True
  | some (.ext _) => True
  | _ => False
section
variable {P : Program} {w : World} {H : Hp} {h h' : Heap} {x e : Addr} {o' : HO}
/-- the object at e is changed: x itself, or the dict of the instance x -/
theorem HOk.write (ok : HOk P w H h) (mu : Mut (H x)) (he : e = x ∨ H e = some (.own x)) (k : ∀ b u, b ≠ e → h.get? b = some u → h'.get? b = some u) (heo : ∃ u, h'.get? e = some u)
    (new : ObjOk P w (upd H x o') h' x o') : HOk P w (upd H x o') h' := fun b u q => by
  have nown : ∀ c y, H c = some (.own y) → c ≠ x := fun c y r z => by subst z; rw [r] at mu; exact mu
  have ntup : ∀ c xs, H c = some (.tup xs) → c ≠ x := fun c xs r z => by subst z; rw [r] at mu; exact mu
  by_cases hb : b = x
  · subst hb; rw [upd_same] at q; cases q; exact new
  · rw [upd_ne hb] at q
    by_cases hbe : b = e
    · have q' : H b = some (.own x) := by
        rcases he with z | z
        · exact absurd (hbe.trans z) hb
        · rw [hbe]; exact z
      rw [q] at q'; cases q'
      obtain ⟨v, hv⟩ := heo
      exact ⟨v, by rw [hbe]; exact hv⟩
    · refine (ok b u q).stay (fun c v hc r => k c v ?_ r) (fun c r => by rw [upd_ne (nown c b r)]; exact r) fun c xs r => by rw [upd_ne (ntup c xs r)]; exact r
      rcases hc with rfl | hc
      · exact hbe
      · rintro rfl
        rcases he with z | z
        · exact nown c b hc z
        · rw [hc] at z; cases z; exact hb rfl
end
/-! ### kept unless tracked; of the frames at fs (the callers') the slots may change (an exception that passes writes there); of the records at ex (iterators) nothing is said -/
structure Un (fs ex : List Addr) (H H' : Hp) (h h' : Heap) : Prop where
  keep : ∀ b o, h.get? b = some o → H b = none → b ∉ fs → b ∉ ex → h'.get? b = some o
  slot : ∀ b o, h.get? b = some o → H b = none → b ∈ fs → b ∉ ex → ∃ sl, h'.get? b = some { o with slots := sl }
  free : ∀ b o, h.get? b = some o → H b = none → b ∉ ex → H' b = none
  there : ∀ b o, h.get? b = some o → b ∉ ex → ∃ o', h'.get? b = some o'
  tups : ∀ b xs, H b = some (.tup xs) → H' b = some (.tup xs)
  frzs : ∀ b o u, H b = some (.frz o u) → H' b = some (.frz o u)
  tbls : ∀ b ps, H b = some (.tbl ps) → ∃ more, H' b = some (.tbl (ps ++ more))
section
variable {fs fs' ex ex' : List Addr} {H H1 H2 : Hp} {h h1 h2 h' : Heap} {a x e : Addr} {o : HO}
theorem Un.any (u : Un fs ex H H1 h h1) {b : Addr} {ob : Obj} (q : h.get? b = some ob) (n : H b = none) (hx : b ∉ ex) : ∃ sl, h1.get? b = some { ob with slots := sl } := by
  by_cases hb : b ∈ fs
  · exact u.slot b ob q n hb hx
  · exact ⟨ob.slots, u.keep b ob q n hb hx⟩
theorem Un.kept (k : ∀ b u, h.get? b = some u → h'.get? b = some u) : Un fs ex H H h h' :=
  ⟨fun b ob q _ _ _ => k b ob q, fun b ob q _ _ _ => ⟨ob.slots, k b ob q⟩, fun _ _ _ n _ => n, fun b ob q _ => ⟨ob, k b ob q⟩, fun _ _ q => q, fun _ _ _ q => q, fun _ ps q => ⟨#[], by rw [q]; simp⟩⟩
theorem Un.refl : Un fs ex H H h h := Un.kept fun _ _ q => q
theorem Un.laid (k : ∀ b u, h.get? b = some u → h'.get? b = some u) (hp : h.objs.size ≤ a) (hn : H a = none) : Un fs ex H (upd H a o) h h' where
  keep := fun b u q _ _ _ => k b u q
  slot := fun b u q _ _ _ => ⟨u.slots, k b u q⟩
  free := fun b u q n _ => by rw [upd_ne (Nat.ne_of_lt (Nat.lt_of_lt_of_le (Heap.lt_size q) hp))]; exact n
  there := fun b u q _ => ⟨u, k b u q⟩
  tups := fun b xs q => by rw [upd_ne (ne_of_none q hn)]; exact q
  frzs := fun b u xs q => by rw [upd_ne (ne_of_none q hn)]; exact q
  tbls := fun b ps q => ⟨#[], by rw [upd_ne (ne_of_none q hn), q]; simp⟩
theorem Un.write (mu : Mut (H x)) (he : e = x ∨ H e = some (.own x)) (k : ∀ b u, b ≠ e → h.get? b = some u → h'.get? b = some u) (heo : ∃ u, h'.get? e = some u) : Un fs ex H (upd H x o) h h' := by
  have hx : ∀ b, H b = none → b ≠ x := fun b n z => by subst z; rw [n] at mu; exact mu
  have hb : ∀ b, H b = none → b ≠ e := fun b n z => by
    subst z
    rcases he with r | r
    · exact hx b n r
    · rw [n] at r; cases r
  have hm : ∀ b u, H b = some u → ¬ Mut (some u) → b ≠ x := fun b u q nm z => by subst z; rw [q] at mu; exact nm mu
  refine ⟨fun b u q n _ _ => k b u (hb b n) q, fun b u q n _ _ => ⟨u.slots, k b u (hb b n) q⟩, fun b u q n _ => by rw [upd_ne (hx b n)]; exact n, fun b u q _ => ?_,
    fun b xs q => by rw [upd_ne (hm b _ q fun z => z)]; exact q, fun b u xs q => by rw [upd_ne (hm b _ q fun z => z)]; exact q, fun b ps q => ⟨#[], by rw [upd_ne (hm b _ q fun z => z), q]; simp⟩⟩
  by_cases hbe : b = e
  · subst hbe; exact heo
  · exact ⟨u, k b u hbe q⟩
end
/-! ### the heap without what is tracked -/
def trk (h : Heap) (H : Hp) : List Addr := (List.range h.objs.size).filter fun a => (H a).isSome
def hidT (h : Heap) (H : Hp) : Heap := PySem.W.hideAll h (trk h H)
theorem hidT_size (h : Heap) (H : Hp) : (hidT h H).objs.size = h.objs.size := PySem.W.hideAll_size _ _
theorem hidT_get {h : Heap} {H : Hp} {b : Addr} {o : Obj} (e : h.get? b = some o) (n : H b = none) : (hidT h H).get? b = some o :=
  PySem.W.hideAll_get _ e fun hm => by
    have q : (H b).isSome = true := (List.mem_filter.mp hm).2
    rw [n] at q; simp at q
theorem of_hidT {h : Heap} {H : Hp} {b : Addr} {o : Obj} (e : (hidT h H).get? b = some o) : h.get? b = some o ∧ H b = none := by
  have e' : h.get? b = some o := PySem.W.of_hideAll (trk h H) e
  refine ⟨e', ?_⟩
  cases q : H b with
  | none => rfl
  | some x =>
    have hm : b ∈ trk h H := List.mem_filter.mpr ⟨List.mem_range.mpr (Heap.lt_size e'), by simp [q]⟩
    have z : (hidT h H).get? b = none := PySem.W.hideAll_none (trk h H) hm
    rw [z] at e; cases e
end L2
namespace L2
open PySem PySem.Spec PyProof.Rows
/-- the module's facts, over the base: the heap at the law's entry without what is tracked there -/
structure Mod (K : PySem.W.Frag) (mg : Str → Option Value) (base : Heap) : Prop where
  kin : K.In base
  glob : base.Ns mainGlobals mg
  blt : ∃ mb, base.Ns builtinsNs mb ∧ ∀ x : Str, x ≠ "__name__" → mb x = bootBuiltins x
  nolimit : base.NoLimit
/-- the context: a def's body (or a comprehension's block) running. base: fixed through the whole law; s₀, H₀: the entry; outer: the frames whose slots others may change (a def's callers); stack: all frames that run;
   ex: iterators that were made ahead of the entry and are walked here (a comprehension's); fn: the names whose cells were made at the entry (a def: all; a comprehension's block: its own); calm: not within an except suite; pn: pins that every state bears; xe: what is wanted of an exception that leaves the code -/
structure Cx where
  prog : Program
  w : World
  K : PySem.W.Frag
  mg : Str → Option Value
  base : Heap
  A : Around
  N : List Str
  s₀ : Shared
  H₀ : Hp
  env : Env
  outer : List Env
  stack : List Env
  ex : List Addr
  fn : Str → Bool
  calm : Bool
  pn : List (Addr × Obj)
  xe : Value → Shared → Prop
/-- the callers' frames -/
def frs (l : List Env) : List Addr := l.filterMap (·.frame)
abbrev Cx.fs (X : Cx) : List Addr := frs X.outer
def Vis (sc : Scope) (x : Str) : Prop := sc.names.lookup x = some .local ∨ sc.names.lookup x = some .cell ∨ sc.names.lookup x = some .free
def Loc (sc : Scope) (x : Str) : Prop := sc.names.lookup x = some .local ∨ sc.names.lookup x = some .cell
def Look (env : Env) (h : Heap) (m : Str → Option Value) (x : Str) (u : Value) : Prop :=
  (env.kindOf x = some .local ∧ m x = some u) ∨ ((env.kindOf x = some .cell ∨ env.kindOf x = some .free) ∧ ∃ c, env.cells.lookup x = some c ∧ h.IsCell c (some u))
structure Cx.Ok (X : Cx) : Prop where
  mod : Mod X.K X.mg X.base
  kind : X.env.scope.kind = .function
  glob : X.env.globals = mainGlobals
  blt : X.env.builtins = builtinsNs
  above : X.s₀.heap.objs.size ≤ X.env.locals
  inj : ∀ x y c, X.env.cells.lookup x = some c → X.env.cells.lookup y = some c → x = y
  has : ∀ x, (X.env.kindOf x = some .cell ∨ X.env.kindOf x = some .free) → ∃ c, X.env.cells.lookup x = some c
  cab : ∀ x c, X.fn x = true → X.env.cells.lookup x = some c → X.s₀.heap.objs.size ≤ c
  hd : X.calm = true → X.A.handled = none
  frames : X.A.frames = some X.stack
  stk : X.stack = X.outer ∨ (X.stack = X.env :: X.outer ∧ X.env.frame = some X.env.locals)
  exf : ∀ b ∈ X.ex, b ≠ X.env.locals ∧ ∀ x c, X.env.cells.lookup x = some c → c ≠ b
  bs : ∀ b o, X.base.get? b = some o → X.s₀.heap.get? b = some o ∧ X.H₀ b = none
  bsz : X.base.objs.size ≤ X.s₀.heap.objs.size
  noex : ∀ b o, X.base.get? b = some o → b ∉ X.ex
  exfs : ∀ b ∈ X.ex, b ∉ X.fs
  funs : X.s₀.heap.FunFrames X.base X.outer
  frf : ∀ b ∈ X.fs, X.H₀ b = none
structure Inv (X : Cx) (pins : List (Addr × Obj)) (σ : List (Option V)) (H : Hp) (s : Shared) : Prop where
  ok : X.Ok
  os : s.os = X.s₀.os
  bare : AllBare s.gens
  base : Un X.fs X.ex X.H₀ H X.s₀.heap s.heap
  loc : ∃ m, s.heap.Ns X.env.locals m ∧ ∀ (i : Nat) (x : Str) (v : V), X.N[i]? = some x → σ[i]? = some (some v) → Vis X.env.scope x → ∃ u, RelV v u ∧ Look X.env s.heap m x u
  cell : ∀ x c, X.env.cells.lookup x = some c → ∃ v, s.heap.IsCell c v
  free : H X.env.locals = none
  freeC : ∀ x c, X.env.cells.lookup x = some c → H c = none
  pin : ∀ p ∈ X.pn ++ pins, s.heap.get? p.1 = some p.2 ∧ H p.1 = none ∧ p.1 ≠ X.env.locals ∧ p.1 ∉ X.fs ∧ ∀ v, p.2.data ≠ .cell v
  hok : HOk X.prog X.w H s.heap
  len : σ.length = X.N.length
section
variable {X : Cx} {pins : List (Addr × Obj)} {σ : List (Option V)} {H H' : Hp} {s : Shared} {h' : Heap}
theorem Cx.Ok.nofr (ok : X.Ok) {b : Addr} {o : Obj} (e : X.base.get? b = some o) : b ∉ X.fs := fun hb => by
  have := (ok.funs.mem hb).1
  rw [e] at this; cases this
theorem Inv.bs (I : Inv X pins σ H s) : ∀ b o, X.base.get? b = some o → s.heap.get? b = some o ∧ H b = none := fun b o e =>
  ⟨I.base.keep b o (I.ok.bs b o e).1 (I.ok.bs b o e).2 (I.ok.nofr e) (I.ok.noex b o e), I.base.free b o (I.ok.bs b o e).1 (I.ok.bs b o e).2 (I.ok.noex b o e)⟩
theorem Inv.bk (I : Inv X pins σ H s) : ∀ b o, X.base.get? b = some o → s.heap.get? b = some o := fun b o e => (I.bs b o e).1
theorem Inv.mod (I : Inv X pins σ H s) : Mod X.K X.mg X.base := I.ok.mod
theorem Inv.kIn (I : Inv X pins σ H s) : X.K.In s.heap := I.ok.mod.kin.keeps I.bk
theorem Inv.lt (I : Inv X pins σ H s) : X.env.locals < s.heap.objs.size := let ⟨_, hn, _⟩ := I.loc; hn.lt
theorem Inv.sz (I : Inv X pins σ H s) : X.s₀.heap.objs.size ≤ s.heap.objs.size := Nat.le_trans I.ok.above (Nat.le_of_lt I.lt)
theorem Inv.nofs (I : Inv X pins σ H s) {a : Addr} (h : s.heap.objs.size ≤ a) : a ∉ X.fs := fun hb => by
  obtain ⟨_, o, ho, _⟩ := I.ok.funs.mem hb
  exact absurd (Nat.lt_of_lt_of_le (Heap.lt_size ho) (Nat.le_trans I.sz h)) (Nat.lt_irrefl _)
theorem Inv.cne (I : Inv X pins σ H s) : ∀ x c, X.env.cells.lookup x = some c → c ≠ X.env.locals := fun x c e z => by
  obtain ⟨v, o, ho, hd⟩ := I.cell x c e
  obtain ⟨m, ⟨o', es, ep, ho', hd', _⟩, _⟩ := I.loc
  rw [z, ho'] at ho; cases ho; rw [hd'] at hd; cases hd
theorem Inv.funs (I : Inv X pins σ H s) : s.heap.FunFrames X.base X.outer := by
  have all : ∀ (l : List Env), (∀ b ∈ frs l, b ∈ X.fs) → X.s₀.heap.FunFrames X.base l → s.heap.FunFrames X.base l := by
    intro l
    induction l with
    | nil => intro _ _; trivial
    | cons env r ih =>
      intro hs hl
      obtain ⟨hk, ⟨L, o, hf, hn, ho, hd⟩, hr⟩ := hl
      have hL : L ∈ X.fs := hs L (by unfold frs; rw [List.filterMap_cons, hf]; exact List.mem_cons_self)
      obtain ⟨sl, e⟩ := I.base.slot L o ho (I.ok.frf L hL) hL fun z => I.ok.exfs L z hL
      exact ⟨hk, ⟨L, _, hf, hn, e, hd⟩, ih (fun b hb => hs b (by unfold frs; rw [List.filterMap_cons, hf]; exact List.mem_cons_of_mem _ hb)) hr⟩
  exact all X.outer (fun _ hb => hb) I.ok.funs
/-- the frames that run, for a call -/
theorem Inv.stack (I : Inv X pins σ H s) : s.heap.FunFrames X.base X.stack := by
  rcases I.ok.stk with e | ⟨e, hf⟩
  · rw [e]; exact I.funs
  · rw [e]
    obtain ⟨m, hn, _⟩ := I.loc
    refine .cons (by rw [I.ok.kind]; decide) hf hn ?_ I.funs
    exact Heap.get?_none_of_le (Nat.le_trans I.ok.bsz I.ok.above)
theorem Inv.stkSub (I : Inv X pins σ H s) : ∀ b ∈ frs X.stack, b ∈ X.env.locals :: X.fs := fun b hb => by
  rcases I.ok.stk with e | ⟨e, hf⟩
  · rw [e] at hb; exact List.mem_cons_of_mem _ hb
  · rw [e] at hb
    unfold frs at hb
    rw [List.filterMap_cons, hf] at hb
    exact hb
theorem Inv.stkFree (I : Inv X pins σ H s) : ∀ b ∈ frs X.stack, H b = none := fun b hb => by
  rcases List.mem_cons.mp (I.stkSub b hb) with e | hb
  · rw [e]; exact I.free
  · obtain ⟨_, o, ho, _⟩ := I.ok.funs.mem hb
    exact I.base.free b o ho (I.ok.frf b hb) fun z => I.ok.exfs b z hb
/-- THE STEP: the untracked objects but the frame and the records at ch are kept (the callers' frames up to slots), the frame's map is kept, the new abstract heap is held -/
theorem Inv.step {g' : Array GenState} {t' : Nat} {d' : Drawn} {ch : List Addr} (I : Inv X pins σ H s)
    (hch : ∀ b ∈ ch, (b ∈ X.ex ∨ X.s₀.heap.objs.size ≤ b) ∧ b ≠ X.env.locals ∧ (∀ x c, X.env.cells.lookup x = some c → c ≠ b) ∧ ∀ p ∈ X.pn ++ pins, p.1 ≠ b)
    (keep : ∀ b o, b ≠ X.env.locals → b ∉ X.fs → b ∉ ch → s.heap.get? b = some o → H b = none → h'.get? b = some o)
    (slot : ∀ b o, b ≠ X.env.locals → b ∈ X.fs → b ∉ ch → s.heap.get? b = some o → H b = none → ∃ sl, h'.get? b = some { o with slots := sl }) (free : ∀ b o, b ∉ ch → s.heap.get? b = some o → H b = none → H' b = none)
    (there : ∀ b o, b ∉ ch → s.heap.get? b = some o → ∃ o', h'.get? b = some o')
    (tups : ∀ b xs, H b = some (.tup xs) → H' b = some (.tup xs)) (frzs : ∀ b o u, H b = some (.frz o u) → H' b = some (.frz o u)) (tbls : ∀ b ps, H b = some (.tbl ps) → ∃ more, H' b = some (.tbl (ps ++ more)))
    (ns : ∀ m, s.heap.Ns X.env.locals m → h'.Ns X.env.locals m) (hok : HOk X.prog X.w H' h') (hg : AllBare g') :
    Inv X pins σ H' { s with heap := h', gens := g', drawn := d', toks := t' } := by
  have neL : ∀ b o, X.s₀.heap.get? b = some o → b ≠ X.env.locals := fun b o e => Nat.ne_of_lt (Nat.lt_of_lt_of_le (Heap.lt_size e) I.ok.above)
  have neC : ∀ b o, X.s₀.heap.get? b = some o → b ∉ X.ex → b ∉ ch := fun b o e hx hb => by
    rcases (hch b hb).1 with z | z
    · exact hx z
    · exact absurd (Nat.lt_of_lt_of_le (Heap.lt_size e) z) (Nat.lt_irrefl _)
  have cellK : ∀ x c, X.env.cells.lookup x = some c → ∀ v, s.heap.IsCell c v → h'.IsCell c v := fun x c e v ⟨o, ho, hd⟩ => by
    have nch : c ∉ ch := fun z => (hch c z).2.2.1 x c e rfl
    by_cases hc : c ∈ X.fs
    · obtain ⟨sl, q⟩ := slot c o (I.cne x c e) hc nch ho (I.freeC x c e)
      exact ⟨_, q, hd⟩
    · exact ⟨o, keep c o (I.cne x c e) hc nch ho (I.freeC x c e), hd⟩
  refine ⟨I.ok, I.os, hg, ⟨fun b o e n hb hx => ?_, fun b o e n hb hx => ?_, fun b o e n hx => ?_, fun b o e hx => ?_, fun b xs e => tups b xs (I.base.tups b xs e), fun b o xs e => frzs b o xs (I.base.frzs b o xs e), fun b ps e => ?_⟩, ?_, fun x c e => ?_, ?_, fun x c e => ?_, fun p hp => ?_, hok, I.len⟩
  · exact keep b o (neL b o e) hb (neC b o e hx) (I.base.keep b o e n hb hx) (I.base.free b o e n hx)
  · obtain ⟨sl, e1⟩ := I.base.slot b o e n hb hx
    obtain ⟨sl', e2⟩ := slot b _ (neL b o e) hb (neC b o e hx) e1 (I.base.free b o e n hx)
    exact ⟨sl', e2⟩
  · obtain ⟨o', e1⟩ := I.base.there b o e hx
    exact free b o' (neC b o e hx) e1 (I.base.free b o e n hx)
  · obtain ⟨o', e1⟩ := I.base.there b o e hx
    exact there b o' (neC b o e hx) e1
  · obtain ⟨m1, e1⟩ := I.base.tbls b ps e
    obtain ⟨m2, e2⟩ := tbls b _ e1
    exact ⟨m1 ++ m2, by rw [e2, Array.append_assoc]⟩
  · obtain ⟨m, hn, hl⟩ := I.loc
    refine ⟨m, ns m hn, fun i x v e1 e2 e3 => ?_⟩
    obtain ⟨u, r, l⟩ := hl i x v e1 e2 e3
    refine ⟨u, r, ?_⟩
    rcases l with l | ⟨k, c, e, z⟩
    · exact .inl l
    · exact .inr ⟨k, c, e, cellK x c e _ z⟩
  · obtain ⟨v, z⟩ := I.cell x c e
    exact ⟨v, cellK x c e v z⟩
  · obtain ⟨m, ⟨o, _, _, ho, _⟩, _⟩ := I.loc
    exact free _ o (fun z => (hch _ z).2.1 rfl) ho I.free
  · obtain ⟨v, o, ho, hd⟩ := I.cell x c e
    exact free c o (fun z => (hch c z).2.2.1 x c e rfl) ho (I.freeC x c e)
  · obtain ⟨e, n, ne, nf, d⟩ := I.pin p hp
    have nch : p.1 ∉ ch := fun z => (hch p.1 z).2.2.2 p hp rfl
    exact ⟨keep p.1 p.2 ne nf nch e n, free p.1 p.2 nch e n, ne, nf, d⟩
/-- .. where the frame's own object is kept too -/
theorem Inv.un {t' : Nat} (I : Inv X pins σ H s) (u : Un X.fs [] H H' s.heap h') (hok : HOk X.prog X.w H' h') : Inv X pins σ H' { s with heap := h', toks := t' } := by
  obtain ⟨m, ⟨o, es, ep, ho, r⟩, _⟩ := id I.loc
  obtain ⟨sl, hL⟩ := u.any ho I.free (by simp)
  exact I.step (g' := s.gens) (d' := s.drawn) (ch := []) (fun _ z => nomatch z) (fun b o _ hb _ e n => u.keep b o e n hb (by simp)) (fun b o _ hb _ e n => u.slot b o e n hb (by simp)) (fun b o _ e n => u.free b o e n (by simp)) (fun b o _ e => u.there b o e (by simp)) u.tups u.frzs u.tbls (fun m' hm => by
    obtain ⟨o', es', ep', ho', r'⟩ := hm
    rw [ho] at ho'; cases ho'
    exact ⟨_, es', ep', hL, r'⟩) hok I.bare
/-- behind a call (or a comprehension's block): the slots of this frame may have changed too, the records at ch may have turned -/
theorem Inv.call {g' : Array GenState} {t' : Nat} {d' : Drawn} {ch : List Addr} (I : Inv X pins σ H s) (u : Un (frs X.stack) ch H H' s.heap h') (hok : HOk X.prog X.w H' h') (hg : AllBare g')
    (hch : ∀ b ∈ ch, (b ∈ X.ex ∨ X.s₀.heap.objs.size ≤ b) ∧ b ≠ X.env.locals ∧ (∀ x c, X.env.cells.lookup x = some c → c ≠ b) ∧ ∀ p ∈ X.pn ++ pins, p.1 ≠ b) :
    Inv X pins σ H' { s with heap := h', gens := g', drawn := d', toks := t' } := by
  obtain ⟨m, ⟨o, es, ep, ho, r⟩, _⟩ := id I.loc
  obtain ⟨sl, hL⟩ := u.any ho I.free fun z => (hch _ z).2.1 rfl
  exact I.step (ch := ch) hch (fun b o hL hb hc e n => u.keep b o e n (fun z => (List.mem_cons.mp (I.stkSub b z)).elim hL hb) hc) (fun b o _ _ hc e n => u.any e n hc) (fun b o hc e n => u.free b o e n hc) (fun b o hc e => u.there b o e hc) u.tups u.frzs u.tbls (fun m' hm => by
    obtain ⟨o', es', ep', ho', r'⟩ := hm
    rw [ho] at ho'; cases ho'
    exact ⟨_, es', ep', hL, r'⟩) hok hg
/-- an untracked record of ours (an iterator) has turned -/
theorem Inv.turned {t' : Nat} {it : Addr} (I : Inv X pins σ H s) (k : ∀ b o, b ≠ it → s.heap.get? b = some o → h'.get? b = some o) (hn : H it = none) (hL : it ≠ X.env.locals)
    (h1 : it ∈ X.ex ∨ X.s₀.heap.objs.size ≤ it) (h2 : ∀ x c, X.env.cells.lookup x = some c → c ≠ it) (h3 : ∀ p ∈ X.pn ++ pins, p.1 ≠ it) : Inv X pins σ H { s with heap := h', toks := t' } := by
  have nit : ∀ b u, H b = some u → b ≠ it := fun b u e z => by rw [z, hn] at e; cases e
  refine I.step (g' := s.gens) (d' := s.drawn) (ch := [it]) (fun b hb => ?_) (fun b o _ _ hc e _ => k b o (fun z => hc (by simp [z])) e) (fun b o _ _ hc e _ => ⟨o.slots, k b o (fun z => hc (by simp [z])) e⟩) (fun _ _ _ _ n => n)
    (fun b o hc e => ⟨o, k b o (fun z => hc (by simp [z])) e⟩) (fun _ _ e => e) (fun _ _ _ e => e) (fun b ps e => ⟨#[], by rw [e]; simp⟩) (fun m hm => ?_) (fun b u e => ?_) I.bare
  · have e : b = it := by simpa using hb
    subst e
    exact ⟨h1, hL, h2, h3⟩
  · obtain ⟨o, es, ep, ho, r⟩ := hm
    exact ⟨o, es, ep, k _ o (Ne.symm hL) ho, r⟩
  · refine (I.hok b u e).stay (fun c v hc q => k c v ?_ q) (fun _ q => q) fun _ _ q => q
    rcases hc with z | z
    · rw [z]; exact nit b u e
    · exact nit c _ z
theorem Inv.tok (I : Inv X pins σ H s) (t : Nat) : Inv X pins σ H { s with toks := t } := I.un (h' := s.heap) (t' := t) Un.refl I.hok
/-- all objects kept -/
theorem Inv.kept {t' : Nat} (I : Inv X pins σ H s) (k : ∀ b u, s.heap.get? b = some u → h'.get? b = some u) : Inv X pins σ H { s with heap := h', toks := t' } := I.un (Un.kept k) (I.hok.kept k)
/-- a new object laid and tracked -/
theorem Inv.laid {a : Addr} {o : HO} {t' : Nat} (I : Inv X pins σ H s) (k : ∀ b u, s.heap.get? b = some u → h'.get? b = some u) (hp : s.heap.objs.size ≤ a) (new : ObjOk X.prog X.w (upd H a o) h' a o) :
    Inv X pins σ (upd H a o) { s with heap := h', toks := t' } := I.un (Un.laid k hp (I.hok.fresh hp)) (I.hok.laid k hp new)
/-- an object written -/
theorem Inv.write {x e : Addr} {o : HO} {t' : Nat} (I : Inv X pins σ H s) (mu : Mut (H x)) (he : e = x ∨ H e = some (.own x)) (k : ∀ b u, b ≠ e → s.heap.get? b = some u → h'.get? b = some u) (heo : ∃ u, h'.get? e = some u)
    (new : ObjOk X.prog X.w (upd H x o) h' x o) : Inv X pins σ (upd H x o) { s with heap := h', toks := t' } := I.un (Un.write mu he k heo) (I.hok.write mu he k heo new)
theorem Inv.pins_of {pins' : List (Addr × Obj)} (I : Inv X pins σ H s) (h : ∀ p ∈ pins', s.heap.get? p.1 = some p.2 ∧ H p.1 = none ∧ p.1 ≠ X.env.locals ∧ p.1 ∉ X.fs ∧ ∀ v, p.2.data ≠ .cell v) : Inv X pins' σ H s :=
  ⟨I.ok, I.os, I.bare, I.base, I.loc, I.cell, I.free, I.freeC, fun p hp => (List.mem_append.mp hp).elim (fun z => I.pin p (List.mem_append_left _ z)) (h p), I.hok, I.len⟩
theorem nodup_ix {N : List Str} (hN : N.Nodup) {i j : Nat} {x : Str} (a : N[i]? = some x) (b : N[j]? = some x) : i = j := by
  obtain ⟨h1, e1⟩ := List.getElem?_eq_some_iff.mp a
  obtain ⟨h2, e2⟩ := List.getElem?_eq_some_iff.mp b
  exact (List.getElem_inj hN).mp (e1.trans e2.symm)
/-- a name is stored; what changed -/
theorem store_ok2 {M : Model} {A : Around} {E : Value → Shared → Prop} {i : Nat} {x : Str} {v : V} {u : Value} {Q : Unit → Shared → Prop} (I : Inv X pins σ H s) (hN : X.N.Nodup) (hi : X.N[i]? = some x) (hx : Loc X.env.scope x) (r : RelV v u)
    (h : ∀ s', Inv X pins (σ.set i (some v)) H s' → (∃ a, Heap.SameBut a s.heap s'.heap ∧ (a = X.env.locals ∨ X.env.cells.lookup x = some a)) → Q () s') (hf : X.fn x = true ∨ X.env.scope.names.lookup x = some .local := by first | exact .inl rfl | exact .inr rfl | assumption) : wpAny M A (storeName X.env x u) Q E s := by
  obtain ⟨m, hn, hl⟩ := id I.loc
  have hcls : (X.env.scope.kind == .class || (X.env.scope.kind == .module && X.env.locals != X.env.globals)) = false := by rw [I.ok.kind]; rfl
  have hiσ : i < σ.length := by rw [I.len]; exact (List.getElem?_eq_some_iff.mp hi).1
  have cne := I.cne
  have tracked : ∀ {a : Addr} {h' : Heap}, (∃ o, s.heap.get? a = some o ∧ H a = none) → Heap.SameBut a s.heap h' → HOk X.prog X.w H h' := fun {a h'} ha hs b ob e => by
    obtain ⟨_, _, hfree⟩ := ha
    refine (I.hok b ob e).stay (fun c w' hc q => (hs.2 c ?_).trans q) (fun _ q => q) fun _ _ q => q
    rintro rfl
    rcases hc with rfl | hc
    · rw [hfree] at e; cases e
    · rw [hfree] at hc; cases hc
  rcases hx with hk | hk
  · refine wpAny_storeName_local hk hn (fun h' hn' hs => ?_) hcls
    obtain ⟨oL, _, _, hoL, _⟩ := id hn
    refine h _ ⟨I.ok, I.os, I.bare, ⟨fun b o e n hb hx => ?_, fun b o e n hb hx => ?_, I.base.free, fun b o e hx => ?_, I.base.tups, I.base.frzs, I.base.tbls⟩, ⟨_, hn', fun j y v' e1 e2 e3 => ?_⟩, fun y c e => ?_, I.free, I.freeC, fun p hp => ?_, tracked ⟨oL, hoL, I.free⟩ hs, by simpa using I.len⟩ ⟨_, hs, .inl rfl⟩
    · exact (hs.2 b (Nat.ne_of_lt (Nat.lt_of_lt_of_le (Heap.lt_size e) I.ok.above))).trans (I.base.keep b o e n hb hx)
    · obtain ⟨sl, e1⟩ := I.base.slot b o e n hb hx
      exact ⟨sl, (hs.2 b (Nat.ne_of_lt (Nat.lt_of_lt_of_le (Heap.lt_size e) I.ok.above))).trans e1⟩
    · obtain ⟨o', e1⟩ := I.base.there b o e hx
      exact ⟨o', (hs.2 b (Nat.ne_of_lt (Nat.lt_of_lt_of_le (Heap.lt_size e) I.ok.above))).trans e1⟩
    · by_cases hj : j = i
      · subst hj
        rw [hi] at e1; cases e1
        rw [List.getElem?_set_self hiσ] at e2
        cases e2
        exact ⟨u, r, .inl ⟨hk, by simp⟩⟩
      · rw [List.getElem?_set_ne (Ne.symm hj)] at e2
        obtain ⟨u', r', q⟩ := hl j y v' e1 e2 e3
        refine ⟨u', r', ?_⟩
        rcases q with ⟨k, e⟩ | ⟨k, c, e, z⟩
        · refine .inl ⟨k, ?_⟩
          have : y ≠ x := fun e => hj (nodup_ix hN e1 (e ▸ hi))
          simp [this, e]
        · exact .inr ⟨k, c, e, z.sameBut hs (cne y c e)⟩
    · obtain ⟨w', z⟩ := I.cell y c e
      exact ⟨w', z.sameBut hs (cne y c e)⟩
    · obtain ⟨e, n, ne, nf, d⟩ := I.pin p hp
      exact ⟨(hs.2 p.1 ne).trans e, n, ne, nf, d⟩
  · have hfn : X.fn x = true := by
      rcases hf with z | z
      · exact z
      · rw [z] at hk; cases hk
    obtain ⟨c, hc⟩ := I.ok.has x (.inl hk)
    obtain ⟨w', z⟩ := I.cell x c hc
    refine wpAny_storeName_cell I.ok.kind hk hc z (fun h' hc' hs => ?_)
    obtain ⟨oc, hoc, hocd⟩ := id z
    refine h { s with heap := h' } ⟨I.ok, I.os, I.bare, ⟨fun b o e n hb hx => ?_, fun b o e n hb hx => ?_, I.base.free, fun b o e hx => ?_, I.base.tups, I.base.frzs, I.base.tbls⟩, ⟨m, hn.sameBut hs (Ne.symm (cne x c hc)), fun j y v' e1 e2 e3 => ?_⟩, fun y c' e => ?_, I.free, I.freeC, fun p hp => ?_, tracked ⟨oc, hoc, I.freeC x c hc⟩ hs, by simpa using I.len⟩ ⟨c, hs, .inr hc⟩
    · exact (hs.2 b (Nat.ne_of_lt (Nat.lt_of_lt_of_le (Heap.lt_size e) (I.ok.cab x c hfn hc)))).trans (I.base.keep b o e n hb hx)
    · obtain ⟨sl, e1⟩ := I.base.slot b o e n hb hx
      exact ⟨sl, (hs.2 b (Nat.ne_of_lt (Nat.lt_of_lt_of_le (Heap.lt_size e) (I.ok.cab x c hfn hc)))).trans e1⟩
    · obtain ⟨o', e1⟩ := I.base.there b o e hx
      exact ⟨o', (hs.2 b (Nat.ne_of_lt (Nat.lt_of_lt_of_le (Heap.lt_size e) (I.ok.cab x c hfn hc)))).trans e1⟩
    · by_cases hj : j = i
      · subst hj
        rw [hi] at e1; cases e1
        rw [List.getElem?_set_self hiσ] at e2
        cases e2
        exact ⟨u, r, .inr ⟨.inl hk, c, hc, hc'⟩⟩
      · rw [List.getElem?_set_ne (Ne.symm hj)] at e2
        obtain ⟨u', r', q⟩ := hl j y v' e1 e2 e3
        refine ⟨u', r', ?_⟩
        rcases q with q | ⟨k, c', e, z'⟩
        · exact .inl q
        · refine .inr ⟨k, c', e, z'.sameBut hs ?_⟩
          rintro rfl
          exact hj (nodup_ix hN e1 (I.ok.inj _ _ _ e hc ▸ hi))
    · by_cases hcc : c' = c
      · subst hcc; exact ⟨_, hc'⟩
      · obtain ⟨w2, z2⟩ := I.cell y c' e
        exact ⟨w2, z2.sameBut hs hcc⟩
    · obtain ⟨e, n, ne, nf, d⟩ := I.pin p hp
      refine ⟨(hs.2 p.1 ?_).trans e, n, ne, nf, d⟩
      intro q
      rw [q, hoc] at e
      have q' : oc = p.2 := Option.some.inj e
      exact d w' (by rw [← q']; exact hocd)
theorem store_ok {M : Model} {A : Around} {E : Value → Shared → Prop} {i : Nat} {x : Str} {v : V} {u : Value} {Q : Unit → Shared → Prop} (I : Inv X pins σ H s) (hN : X.N.Nodup) (hi : X.N[i]? = some x) (hx : Loc X.env.scope x) (r : RelV v u)
    (h : ∀ s', Inv X pins (σ.set i (some v)) H s' → Q () s') (hf : X.fn x = true ∨ X.env.scope.names.lookup x = some .local := by first | exact .inl rfl | exact .inr rfl | assumption) : wpAny M A (storeName X.env x u) Q E s :=
  store_ok2 I hN hi hx r (fun s' I' _ => h s' I') hf
/-- behind a call or a block, the state as it is -/
theorem Inv.call' {s' : Shared} {ch : List Addr} (I : Inv X pins σ H s) (ho : s'.os = s.os) (u : Un (frs X.stack) ch H H' s.heap s'.heap) (hok : HOk X.prog X.w H' s'.heap) (hg : AllBare s'.gens)
    (hch : ∀ b ∈ ch, (b ∈ X.ex ∨ X.s₀.heap.objs.size ≤ b) ∧ b ≠ X.env.locals ∧ (∀ x c, X.env.cells.lookup x = some c → c ≠ b) ∧ ∀ p ∈ X.pn ++ pins, p.1 ≠ b) : Inv X pins σ H' s' := by
  obtain ⟨h', g', d', t', o'⟩ := s'
  have e : o' = s.os := ho
  subst e
  exact I.call (g' := g') (t' := t') (d' := d') u hok hg hch
end
/-! ### the judgements -/
/-- an exception: its class, its own dict's address (where it has one), the abstract heap behind it -/
abbrev XK := Value → Option Addr → Hp → Prop
abbrev St := List (Option V)
abbrev VK := V → Hp → Prop
/-- an expression's reading; a test's; an argument list's -/
abbrev TE := St → Hp → VK → Prop
abbrev TT := St → Hp → (Bool → Hp → Prop) → Prop
abbrev TA := St → Hp → (List V → Hp → Prop) → Prop
/-- what is wanted behind a statement -/
structure Ends where
  nx : St → Hp → Prop
  rt : VK
  bk : St → Hp → Prop := fun _ _ => False
  ct : St → Hp → Prop := fun _ _ => False
abbrev TS := Ends → St → Hp → Prop
def EP (X : Cx) (pins : List (Addr × Obj)) (σ : St) (Q : VK) (u : Value) (s' : Shared) : Prop := ∃ v H', Inv X pins σ H' s' ∧ RelV v u ∧ Q v H'
def TP (X : Cx) (pins : List (Addr × Obj)) (σ : St) (Q : Bool → Hp → Prop) (b : Bool) (s' : Shared) : Prop := ∃ H', Inv X pins σ H' s' ∧ Q b H'
def AP (X : Cx) (pins : List (Addr × Obj)) (σ : St) (Q : List V → Hp → Prop) (us : List Value) (s' : Shared) : Prop := ∃ vs H', Inv X pins σ H' s' ∧ Vals vs us ∧ Q vs H'
def SP (X : Cx) (pins : List (Addr × Obj)) (D : Ends) (f : Flow) (s' : Shared) : Prop :=
  match f with
  | .next => ∃ σ' H', Inv X pins σ' H' s' ∧ D.nx σ' H'
  | .brk => ∃ σ' H', Inv X pins σ' H' s' ∧ D.bk σ' H'
  | .cont => ∃ σ' H', Inv X pins σ' H' s' ∧ D.ct σ' H'
  | .ret u => ∃ v σ' H', Inv X pins σ' H' s' ∧ RelV v u ∧ D.rt v H'
def PE (X : Cx) (e : Expr) (t : TE) : Prop :=
  ∀ (pins : List (Addr × Obj)) (s : Shared) (σ : St) (H : Hp) (Q : VK), Inv X pins σ H s → t σ H Q → wpAny (model X.prog X.w) X.A (eval e X.env) (EP X pins σ Q) X.xe s
def PT (X : Cx) (e : Expr) (t : TT) : Prop :=
  ∀ (pins : List (Addr × Obj)) (s : Shared) (σ : St) (H : Hp) (Q : Bool → Hp → Prop), Inv X pins σ H s → t σ H Q → wpAny (model X.prog X.w) X.A (isTrue e X.env (eval e X.env)) (TP X pins σ Q) X.xe s
/-- a test whatever its 'whole' is (and, or) -/
def PW (X : Cx) (e : Expr) (t : TT) : Prop :=
  ∀ (whole : Sem Value) (pins : List (Addr × Obj)) (s : Shared) (σ : St) (H : Hp) (Q : Bool → Hp → Prop), Inv X pins σ H s → t σ H Q → wpAny (model X.prog X.w) X.A (isTrue e X.env whole) (TP X pins σ Q) X.xe s
theorem PW.pt {X : Cx} {e : Expr} {t : TT} (h : PW X e t) : PT X e t := h _
/-- an argument list (no star), from the left -/
def PA (X : Cx) (es : List Expr) (t : TA) : Prop :=
  ∀ (pos : Pos) (pins : List (Addr × Obj)) (s : Shared) (σ : St) (H : Hp) (Q : List V → Hp → Prop), Inv X pins σ H s → t σ H Q → wpAny (model X.prog X.w) X.A (spliced (backTo pos (starEach es X.env))) (AP X pins σ Q) X.xe s
def PS (X : Cx) (st : Stmt) (t : TS) : Prop :=
  ∀ (pins : List (Addr × Obj)) (s : Shared) (σ : St) (H : Hp) (D : Ends), Inv X pins σ H s → t D σ H → wpAny (model X.prog X.w) X.A (exec st X.env) (SP X pins D) X.xe s
def PSs (X : Cx) (st : List Stmt) (t : TS) : Prop :=
  ∀ (pins : List (Addr × Obj)) (s : Shared) (σ : St) (H : Hp) (D : Ends), Inv X pins σ H s → t D σ H → wpAny (model X.prog X.w) X.A (execs st X.env) (SP X pins D) X.xe s
/-- weaken the end -/
theorem thn {α : Type} {t : Sem α} {Q Q' : α → Shared → Prop} {M : Model} {A : Around} {E : Value → Shared → Prop} {s : Shared} (h : wpAny M A t Q E s) (hQ : ∀ a s, Q a s → Q' a s) : wpAny M A t Q' E s := wpAny_mono h hQ fun _ _ x => x
end L2
namespace L2
open PySem PySem.Spec PyProof.Rows
section
variable {X : Cx}
/-! ### names and constants -/
def tVar (i : Nat) : TE := fun σ H Q => ∃ v, σ[i]? = some (some v) ∧ Q v H
def tC (v : V) : TE := fun _ H Q => Q v H
theorem pe_var {i : Nat} {x : Str} {pos : Pos} (hN : X.N[i]? = some x) (hv : Vis X.env.scope x) (hd : (x == ("__debug__" : Str)) = false := by decide) (hcd : (x == ("__classdict__" : Str)) = false := by decide) : PE X (.Name x pos) (tVar i) := by
  intro pins s σ H Q I h
  obtain ⟨v, e, h⟩ := h
  obtain ⟨m, hn, hl⟩ := I.loc
  obtain ⟨u, r, l⟩ := hl i x v hN e hv
  have fin : EP X pins σ Q u s := ⟨v, H, I, r, h⟩
  rcases l with ⟨hk, hm⟩ | ⟨hk, c, hc, hcell⟩
  · exact wpAny_Name (wpAny_loadName_local I.ok.kind hk hn hm fin) hd
  · rcases hk with hk | hk
    · exact wpAny_Name (wpAny_loadName_cell I.ok.kind hk hc hcell fin) hd
    · exact wpAny_Name (wpAny_loadName_free I.ok.kind hk hc hcell fin hcd) hd
theorem pe_int {i j pos} : PE X (.Constant (.int i) j pos) (tC (.int i)) := fun _ _ _ H _ I h => wpAny_Constant_int ⟨.int i, H, I.tok _, ⟨_, rfl⟩, h⟩
theorem pe_bl {b j pos} : PE X (.Constant (.bool b) j pos) (tC (.bl b)) := fun _ _ _ H _ I h => Constant_bool ⟨.bl b, H, I, rfl, h⟩
theorem pe_non {j pos} : PE X (.Constant .none j pos) (tC .non) := fun _ _ _ H _ I h => Constant_none ⟨.non, H, I, rfl, h⟩
theorem pe_str {x j pos} : PE X (.Constant (.str x) j pos) (tC (.str x)) := fun _ _ _ H _ I h => Calls.Constant_str ⟨.str x, H, I.tok _, ⟨_, rfl⟩, h⟩
/-- a global name of the def -/
def Gl (X : Cx) (x : Str) : Prop := X.env.kindOf x = some .globalImplicit
theorem ld_glob {E : Value → Shared → Prop} {pins : List (Addr × Obj)} {s : Shared} {σ : St} {H : Hp} {x : Str} {u : Value} {pos : Pos} {Q : Value → Shared → Prop} (I : Inv X pins σ H s) (hg : Gl X x) (hm : X.mg x = some u) (h : Q u s)
    (hd : (x == ("__debug__" : Str)) = false := by decide) : wpAny (model X.prog X.w) X.A (eval (.Name x pos) X.env) Q E s :=
  Calls.Name_function_global I.ok.kind hg (Calls.loadGlobal_global (by rw [I.ok.glob]; exact I.mod.glob.keeps I.bk) hm h) hd
theorem ld_blt {E : Value → Shared → Prop} {pins : List (Addr × Obj)} {s : Shared} {σ : St} {H : Hp} {x : Str} {u : Value} {pos : Pos} {Q : Value → Shared → Prop} (I : Inv X pins σ H s) (hg : Gl X x) (hm : X.mg x = none) (hv : bootBuiltins x = some u) (h : Q u s)
    (hn : x ≠ "__name__" := by decide) (hd : (x == ("__debug__" : Str)) = false := by decide) : wpAny (model X.prog X.w) X.A (eval (.Name x pos) X.env) Q E s := by
  obtain ⟨mb, h1, h2⟩ := I.mod.blt
  exact Calls.Name_function_global I.ok.kind hg (Calls.loadGlobal_builtin (by rw [I.ok.glob]; exact I.mod.glob.keeps I.bk) hm (by rw [I.ok.blt]; exact h1.keeps I.bk) ((h2 x hn).trans hv) h) hd
/-- a module's constant, a class, a function, as a value -/
theorem pe_glob {x : Str} {v : V} {u : Value} {pos : Pos} (hg : Gl X x) (hm : X.mg x = some u) (r : RelV v u) (hd : (x == ("__debug__" : Str)) = false := by decide) : PE X (.Name x pos) (tC v) :=
  fun _ _ _ H _ I h => ld_glob I hg hm ⟨v, H, I, r, h⟩ hd
variable {a b : Expr} {ta tb : TE} {pos : Pos}
/-- a comparison as a value, as a test -/
def tB (t : TE) : TT := fun σ H Q => t σ H fun x H1 => ∃ c, x = .bl c ∧ Q c H1
/-- an expression whose value is a bool, as a test -/
theorem pt_val {e : Expr} {t : TE} (h : PE X e t) (he : ∀ whole, isTrue e X.env whole = (do let v ← whole; standAt e.pos; holding [v] (truthy v)) := by intro _; rfl) : PT X e (tB t) := by
  intro pins s σ H Q I hw
  refine isTrue_plain (thn (h pins s σ H _ I hw) fun v s1 ⟨x, H1, I1, r1, q1⟩ => ?_) (he _)
  obtain ⟨d, rfl, q⟩ := q1
  cases r1
  exact wpAny_truthy_bool ⟨H1, I1, q⟩
/-! ### and, or, not -/
variable {tA tB' : TT} {rest : List Expr}
def tAnd (t u : TT) : TT := fun σ H Q => t σ H fun c H1 => if c = true then u σ H1 Q else Q false H1
def tOr (t u : TT) : TT := fun σ H Q => t σ H fun c H1 => if c = true then Q true H1 else u σ H1 Q
def tNot (t : TT) : TT := fun σ H Q => t σ H fun c H1 => Q (!c) H1
theorem pw_and1 (ha : PT X a tA) : PW X (.BoolOp .And [a] pos) tA := by
  intro wh pins s σ H Q I h
  refine isTrue_and (thn (ha pins s σ H Q I h) fun c s1 e => ?_)
  cases c with
  | true => exact isTrue_and_nil e
  | false => exact e
theorem pw_or1 (ha : PT X a tA) : PW X (.BoolOp .Or [a] pos) tA := by
  intro wh pins s σ H Q I h
  refine isTrue_or (thn (ha pins s σ H Q I h) fun c s1 e => ?_)
  cases c with
  | false => exact isTrue_or_nil e
  | true => exact e
theorem pw_and (ha : PT X a tA) (hb : PW X (.BoolOp .And (b :: rest) pos) tB') : PW X (.BoolOp .And (a :: b :: rest) pos) (tAnd tA tB') := by
  intro wh pins s σ H Q I h
  refine isTrue_and (thn (ha pins s σ H _ I h) fun c s1 ⟨H1, I1, q1⟩ => ?_)
  cases c with
  | true => exact hb wh pins s1 σ H1 Q I1 q1
  | false => exact ⟨H1, I1, q1⟩
theorem pw_or (ha : PT X a tA) (hb : PW X (.BoolOp .Or (b :: rest) pos) tB') : PW X (.BoolOp .Or (a :: b :: rest) pos) (tOr tA tB') := by
  intro wh pins s σ H Q I h
  refine isTrue_or (thn (ha pins s σ H _ I h) fun c s1 ⟨H1, I1, q1⟩ => ?_)
  cases c with
  | true => exact ⟨H1, I1, q1⟩
  | false => exact hb wh pins s1 σ H1 Q I1 q1
theorem pt_not (ha : PT X a tA) : PT X (.UnaryOp .Not a pos) (tNot tA) := by
  intro pins s σ H Q I h
  exact isTrue_not (ha pins s σ H (fun c H1 => Q (!c) H1) I h)
/-- a if t else b -/
def tIf (t : TT) (ta tb : TE) : TE := fun σ H Q => t σ H fun c H1 => if c = true then ta σ H1 Q else tb σ H1 Q
theorem pe_ifExp {c : Expr} (hc : PT X c tA) (ha : PE X a ta) (hb : PE X b tb) : PE X (.IfExp c a b pos) (tIf tA ta tb) := by
  intro pins s σ H Q I h
  refine wpAny_IfExp (thn (hc pins s σ H _ I h) fun d s1 ⟨H1, I1, q1⟩ => ?_)
  cases d with
  | true => exact ha pins s1 σ H1 Q I1 q1
  | false => exact hb pins s1 σ H1 Q I1 q1
end
end L2
namespace L2
open PySem PySem.Spec PyProof.Rows
/-! ### a list, a tuple that is read: tracked, frozen, or an object of the module -/
def SqL (K : PySem.W.Frag) (H : Hp) (a : Addr) (xs : List V) : Prop :=
  Rd H a (.lst xs) ∨
    ∃ (o : Obj) (its : Array Value) (n : Nat), K.lookup a = some o ∧ o.cls = .type "list" ∧ o.dict = none ∧ o.data = .seq its n ∧ its.size ≤ sizeLine ∧ Vals xs its.toList
def SqT (K : PySem.W.Frag) (H : Hp) (a : Addr) (xs : List V) : Prop :=
  Rd H a (.tup xs) ∨
    ∃ (o : Obj) (its : Array Value) (n : Nat), K.lookup a = some o ∧ o.cls = .type "tuple" ∧ o.data = .seq its n ∧ its.size ≤ sizeLine ∧ Vals xs its.toList
def absV : Value → Option V
  | .none => some .non
  | .bool b => some (.bl b)
  | .int i _ => some (.int i)
  | .str x _ => some (.str x)
  | .bytes b _ => some (.byt b)
  | .float b _ => some (.flt b)
  | .ref a => some (.ref a)
  | .type n => some (.ty n)
  | _ => none
theorem RelV.abs {x : V} {u : Value} (r : RelV x u) : absV u = some x := by
  cases x with
  | non => cases r; rfl
  | bl _ => cases r; rfl
  | int _ => obtain ⟨t, rfl⟩ := r; rfl
  | str _ => obtain ⟨t, rfl⟩ := r; rfl
  | byt _ => obtain ⟨t, rfl⟩ := r; rfl
  | flt _ => obtain ⟨t, rfl⟩ := r; rfl
  | ref _ => cases r; rfl
  | ty _ => cases r; rfl
theorem RelV.inj {x y : V} {u : Value} (r : RelV x u) (q : RelV y u) : x = y := Option.some.inj (r.abs.symm.trans q.abs)
theorem Vals.inj : ∀ {xs ys : List V} {us : List Value}, Vals xs us → Vals ys us → xs = ys
  | _, _, _, .nil, .nil => rfl
  | _, _, _, .cons r t, .cons r' t' => by rw [r.inj r', Vals.inj t t']
section
variable {X : Cx} {pins : List (Addr × Obj)} {σ : St} {H : Hp} {s : Shared} {a : Addr} {xs ys : List V}
theorem SqL.of {K : PySem.W.Frag} (h : H a = some (.lst xs)) : SqL K H a xs := .inl (.inl h)
theorem SqT.of {K : PySem.W.Frag} (h : H a = some (.tup xs)) : SqT K H a xs := .inl (.inl h)
theorem Inv.list (I : Inv X pins σ H s) (h : SqL X.K H a xs) : ∃ its : List Value, Vals xs its ∧ PlainL s.heap a its.toArray ∧ xs.length ≤ sizeLine := by
  rcases h with h | ⟨o, its, n, hk, hc, hd, hs, hz, r⟩
  · obtain ⟨z, its, n, r, e⟩ := h.ok I.hok
    exact ⟨its, r, ⟨_, n, e, rfl, rfl, rfl⟩, z⟩
  · refine ⟨its.toList, r, ⟨o, n, I.kIn a o hk, hc, hd, by simpa using hs⟩, ?_⟩
    have e := r.length
    simp only [Array.length_toList] at e
    (first | lia | omega)
theorem Inv.tuple (I : Inv X pins σ H s) (h : SqT X.K H a xs) : ∃ its : List Value, Vals xs its ∧ IsTup s.heap a its.toArray ∧ xs.length ≤ sizeLine := by
  rcases h with h | ⟨o, its, n, hk, hc, hs, hz, r⟩
  · obtain ⟨⟨z, _⟩, its, r, p⟩ := h.ok I.hok
    exact ⟨its, r, p, z⟩
  · refine ⟨its.toList, r, ⟨o, I.kIn a o hk, hc, n, by simpa using hs⟩, ?_⟩
    have e := r.length
    simp only [Array.length_toList] at e
    (first | lia | omega)
theorem Inv.list_inj (I : Inv X pins σ H s) (h : SqL X.K H a xs) (h' : SqL X.K H a ys) : xs = ys := by
  obtain ⟨its, r, ⟨o, n, e, _, _, d⟩, _⟩ := I.list h
  obtain ⟨its', r', ⟨o', n', e', _, _, d'⟩, _⟩ := I.list h'
  rw [e] at e'; cases e'
  rw [d] at d'
  injection d' with d1 _
  have : its = its' := by simpa using congrArg Array.toList d1
  subst this
  exact r.inj r'
theorem Inv.tuple_inj (I : Inv X pins σ H s) (h : SqT X.K H a xs) (h' : SqT X.K H a ys) : xs = ys := by
  obtain ⟨its, r, ⟨o, e, _, n, d⟩, _⟩ := I.tuple h
  obtain ⟨its', r', ⟨o', e', _, n', d'⟩, _⟩ := I.tuple h'
  rw [e] at e'; cases e'
  rw [d] at d'
  injection d' with d1 _
  have : its = its' := by simpa using congrArg Array.toList d1
  subst this
  exact r.inj r'
end
/-! ### another wish about exceptions -/
abbrev Cx.wish (X : Cx) (E : Value → Shared → Prop) : Cx := { X with xe := E }
/-- no exception leaves -/
abbrev Cx.nox (X : Cx) : Cx := X.wish fun _ _ => False
theorem Cx.Ok.wish {X : Cx} (ok : X.Ok) (E : Value → Shared → Prop) : (X.wish E).Ok :=
  ⟨ok.mod, ok.kind, ok.glob, ok.blt, ok.above, ok.inj, ok.has, ok.cab, ok.hd, ok.frames, ok.stk, ok.exf, ok.bs, ok.bsz, ok.noex, ok.exfs, ok.funs, ok.frf⟩
theorem Cx.Ok.unwish {X : Cx} {E : Value → Shared → Prop} (ok : (X.wish E).Ok) : X.Ok :=
  ⟨ok.mod, ok.kind, ok.glob, ok.blt, ok.above, ok.inj, ok.has, ok.cab, ok.hd, ok.frames, ok.stk, ok.exf, ok.bs, ok.bsz, ok.noex, ok.exfs, ok.funs, ok.frf⟩
section
variable {X : Cx} {pins : List (Addr × Obj)} {σ : St} {H : Hp} {s : Shared} {E : Value → Shared → Prop}
theorem Inv.wish (I : Inv X pins σ H s) (E : Value → Shared → Prop) : Inv (X.wish E) pins σ H s := ⟨I.ok.wish E, I.os, I.bare, I.base, I.loc, I.cell, I.free, I.freeC, I.pin, I.hok, I.len⟩
theorem Inv.unwish (I : Inv (X.wish E) pins σ H s) : Inv X pins σ H s := ⟨I.ok.unwish, I.os, I.bare, I.base, I.loc, I.cell, I.free, I.freeC, I.pin, I.hok, I.len⟩
theorem SP.unwish {D : Ends} {f : Flow} {s' : Shared} (h : SP (X.wish E) pins D f s') : SP X pins D f s' := by
  cases f with
  | next => obtain ⟨σ', H', I, q⟩ := h; exact ⟨σ', H', I.unwish, q⟩
  | brk => obtain ⟨σ', H', I, q⟩ := h; exact ⟨σ', H', I.unwish, q⟩
  | cont => obtain ⟨σ', H', I, q⟩ := h; exact ⟨σ', H', I.unwish, q⟩
  | ret u => obtain ⟨v, σ', H', I, r, q⟩ := h; exact ⟨v, σ', H', I.unwish, r, q⟩
theorem PSs.nox {st : List Stmt} {t : TS} (h : PSs X.nox st t) : PSs X st t := fun pins s σ H D I hw =>
  wpAny_mono (h pins s σ H D (I.wish _) hw) (fun _ _ q => q.unwish) fun _ _ z => False.elim z
end
/-! ### blocks and small statements -/
section
variable {X : Cx} {st : Stmt} {rest : List Stmt} {t u : TS} {e : Expr} {te : TE} {pos : Pos}
def tNext : TS := fun D σ H => D.nx σ H
def tSeq (t u : TS) : TS := fun D σ H => t { D with nx := u D } σ H
theorem pss_nil : PSs X [] tNext := fun _ _ σ H _ I h => wpAny_execs_nil ⟨σ, H, I, h⟩
theorem pss_cons (h1 : PS X st t) (h2 : PSs X rest u) : PSs X (st :: rest) (tSeq t u) := by
  intro pins s σ H D I h
  refine wpAny_execs_cons (thn (h1 pins s σ H { D with nx := u D } I h) fun f s1 q => ?_)
  cases f with
  | next =>
    obtain ⟨σ', H', I', q⟩ := q
    exact h2 pins s1 σ' H' D I' q
  | ret v => exact q
  | brk => exact q
  | cont => exact q
theorem pss_one (h1 : PS X st t) : PSs X [st] t := by
  intro pins s σ H D I h
  refine wpAny_execs_cons (thn (h1 pins s σ H D I h) fun f s1 q => ?_)
  cases f with
  | next => exact wpAny_execs_nil q
  | ret v => exact q
  | brk => exact q
  | cont => exact q
/-- in a def's body nothing is shown -/
theorem Inv.quiet {pins : List (Addr × Obj)} {σ : St} {H : Hp} {s : Shared} (I : Inv X pins σ H s) : interactive X.env = false := by simp [interactive, I.ok.kind]
/-- an expression whose value is dropped -/
def tDrop (te : TE) : TS := fun D σ H => te σ H fun _ H1 => D.nx σ H1
theorem ps_expr (he : PE X e te) (hs : swapsWith e none pos.line X.env = pure false := by rfl) : PS X (.Expr e pos) (tDrop te) := by
  intro pins s σ H D I h
  exact wpAny_Expr_any (thn (he pins s σ H _ I h) fun v s1 ⟨x, H1, I1, r1, q1⟩ => ⟨σ, H1, I1, q1⟩) I.quiet hs
def tRet (te : TE) : TS := fun D σ H => te σ H D.rt
theorem ps_ret (he : PE X e te) : PS X (.Return (some e) pos) (tRet te) := by
  intro pins s σ H D I h
  exact wpAny_Return_some (thn (he pins s σ H _ I h) fun v s1 ⟨x, H1, I1, r1, q1⟩ => ⟨x, σ, H1, I1, r1, q1⟩)
def tIfS (c : TT) (t u : TS) : TS := fun D σ H => c σ H fun b H1 => if b = true then t D σ H1 else u D σ H1
theorem ps_if {c : Expr} {a b : List Stmt} {tc : TT} (hc : PT X c tc) (ha : PSs X a t) (hb : PSs X b u) : PS X (.If c a b pos) (tIfS tc t u) := by
  intro pins s σ H D I h
  refine wpAny_If (thn (hc pins s σ H _ I h) fun d s1 ⟨H1, I1, q1⟩ => ?_)
  cases d with
  | true => exact ha pins s1 σ H1 D I1 q1
  | false => exact hb pins s1 σ H1 D I1 q1
end
/-! ### targets -/
abbrev TG := V → St → Hp → (St → Hp → Prop) → Prop
abbrev TGs := List V → St → Hp → (St → Hp → Prop) → Prop
def PG (X : Cx) (target : Expr) (t : TG) : Prop :=
  ∀ (pins : List (Addr × Obj)) (s : Shared) (σ : St) (H : Hp) (v : V) (u : Value) (Q : St → Hp → Prop), Inv X pins σ H s → RelV v u → t v σ H Q →
    wpAny (model X.prog X.w) X.A (assign target X.env u) (fun _ s' => ∃ σ' H', Inv X pins σ' H' s' ∧ Q σ' H') X.xe s
/-- several targets, one after another -/
def PGs (X : Cx) (ts : List Expr) (t : TGs) : Prop :=
  ∀ (pins : List (Addr × Obj)) (s : Shared) (σ : St) (H : Hp) (vs : List V) (us : List Value) (Q : St → Hp → Prop), Inv X pins σ H s → Vals vs us → t vs σ H Q →
    wpAny (model X.prog X.w) X.A (assignInOrder ((assignEach ts X.env).map (·.2)) us) (fun _ s' => ∃ σ' H', Inv X pins σ' H' s' ∧ Q σ' H') X.xe s
/-- o[i] = v, by values -/
abbrev TSet := V → V → V → Hp → (Hp → Prop) → Prop
def PSet (X : Cx) (t : TSet) : Prop :=
  ∀ (pins : List (Addr × Obj)) (s : Shared) (σ : St) (H : Hp) (o i v : V) (ov iv u : Value) (Q : Hp → Prop), Inv X pins σ H s → RelV o ov → RelV i iv → RelV v u → t o i v H Q →
    wpAny (model X.prog X.w) X.A (setItem ov iv u) (fun _ s' => ∃ H', Inv X pins σ H' s' ∧ Q H') X.xe s
section
variable {X : Cx} {pos : Pos}
def gName (i : Nat) : TG := fun v σ H Q => Q (σ.set i (some v)) H
theorem pg_name {i : Nat} {x : Str} (hN : X.N.Nodup) (hi : X.N[i]? = some x) (hx : Loc X.env.scope x) (hf : X.fn x = true ∨ X.env.scope.names.lookup x = some .local := by first | exact .inl rfl | exact .inr rfl | assumption) : PG X (.Name x pos) (gName i) := by
  intro pins s σ H v u Q I r h
  exact wpAny_assign_Name (store_ok I hN hi hx r (fun s' I' => ⟨_, H, I', h⟩) hf)
def gNil : TGs := fun vs σ H Q => vs = [] ∧ Q σ H
def gCons (t : TG) (u : TGs) : TGs := fun vs σ H Q => ∃ v r, vs = v :: r ∧ t v σ H fun σ' H' => u r σ' H' Q
theorem pgs_nil : PGs X [] gNil := by
  intro pins s σ H vs us Q I r h
  obtain ⟨e, h⟩ := h
  subst e
  cases r
  exact assignInOrder_nil ⟨σ, H, I, h⟩
theorem pgs_cons {e : Expr} {es : List Expr} {t : TG} {u : TGs} (h1 : PG X e t) (h2 : PGs X es u)
    (hs : (assignEach (e :: es) X.env).map (·.2) = assign e X.env :: (assignEach es X.env).map (·.2) := by rfl) : PGs X (e :: es) (gCons t u) := by
  intro pins s σ H vs us Q I r h
  obtain ⟨v, vr, e1, h⟩ := h
  subst e1
  cases r with
  | cons r rr =>
    rw [hs]
    refine assignInOrder_cons (thn (h1 pins s σ H _ _ _ I r h) fun _ s1 ⟨σ1, H1, I1, q1⟩ => ?_)
    exact h2 pins s1 σ1 H1 _ _ Q I1 rr q1
/-- (a, b, ..) = a tuple of that length -/
def gTup (K : PySem.W.Frag) (n : Nat) (t : TGs) : TG := fun v σ H Q => ∃ a xs, v = .ref a ∧ SqT K H a xs ∧ xs.length = n ∧ t xs σ H Q
theorem pg_tup {es : List Expr} {k : Nat} {t : TGs} {n : Nat} (hc : X.calm = true) (h : PGs X es t)
    (hn : (assignEach es X.env).length = n := by rfl) (hst : (assignEach es X.env).findIdx? (·.1) = none := by rfl) : PG X (.Tuple es k pos) (gTup X.K n t) := by
  intro pins s σ H v u Q I r hw
  obtain ⟨a, xs, e1, hq, hl, hw⟩ := hw
  subst e1
  cases r
  obtain ⟨its, rv, ht, hz⟩ := I.tuple hq
  refine assign_Tuple_tuple (I.ok.hd hc) ht (by simp [hn, ← hl, rv.length]) hst fun h' hx => ?_
  have I1 : Inv X pins σ H { s with heap := h' } := I.kept (t' := s.toks) fun b o e => hx b o (Nat.ne_of_lt (Heap.lt_size e)) e
  exact h pins _ σ H xs _ Q I1 (by simpa using rv) hw
/-- o[i] = .. -/
def gSub (to ti : TE) (t : TSet) : TG := fun v σ H Q => to σ H fun o H1 => ti σ H1 fun i H2 => t o i v H2 fun H3 => Q σ H3
theorem pg_sub {o i : Expr} {to ti : TE} {t : TSet} (ho : PE X o to) (hi : PE X i ti) (hs : PSet X t)
    (ha : ∀ v, assign (.Subscript o i pos) X.env v = (do
      let ov ← holding [v] (eval o X.env)
      let iv ← holding [v, ov] (eval i X.env)
      standAt pos
      holding [v, ov, iv] (setItem ov iv v)
      release [v, ov, iv] []) := by intro _; rfl) : PG X (.Subscript o i pos) (gSub to ti t) := by
  intro pins s σ H v u Q I r h
  rw [ha]
  refine wpAny_bind (wpAny_holding (thn (ho pins s σ H _ I h) fun ov s1 ⟨x, H1, I1, r1, q1⟩ => ?_))
  refine wpAny_bind (wpAny_holding (thn (hi pins s1 σ H1 _ I1 q1) fun iv s2 ⟨y, H2, I2, r2, q2⟩ => ?_))
  refine wpAny_bind (wpAny_standAt (wpAny_bind (wpAny_holding (thn (hs pins s2 σ H2 x y v ov iv u _ I2 r1 r2 r q2) fun _ s3 ⟨H3, I3, q3⟩ => ?_))))
  exact wpAny_release ⟨σ, H3, I3, q3⟩
/-- target = value -/
def tAsg (te : TE) (g : TG) : TS := fun D σ H => te σ H fun x H1 => g x σ H1 D.nx
theorem ps_asg {tg e : Expr} {te : TE} {g : TG} (he : PE X e te) (hg : PG X tg g) (hs : swapsWithSole [tg] e pos.line X.env = pure false := by rfl) (hw : swappedStores [tg] e X.env = pure none := by rfl)
    (h1 : (assignEach [tg] X.env).map (·.2) = [assign tg X.env] := by rfl) : PS X (.Assign [tg] e pos) (tAsg te g) := by
  intro pins s σ H D I h
  refine wpAny_Assign_stores (thn (he pins s σ H _ I h) fun v s1 ⟨x, H1, I1, r1, q1⟩ => ?_) hs hw
  rw [h1]
  exact thn (hg pins s1 σ H1 x v _ I1 r1 q1) fun _ s2 q => q
/-- name = value -/
theorem ps_set {i : Nat} {x : Str} {e : Expr} {te : TE} {pos' : Pos} (hN : X.N.Nodup) (hi : X.N[i]? = some x) (hx : Loc X.env.scope x) (he : PE X e te) (hs : swapsWith e (some (.Name x pos')) pos.line X.env = pure false := by rfl) (hf : X.fn x = true ∨ X.env.scope.names.lookup x = some .local := by first | exact .inl rfl | exact .inr rfl | assumption) :
    PS X (.Assign [.Name x pos'] e pos) (tAsg te (gName i)) := by
  intro pins s σ H D I h
  refine wpAny_Assign_Name (thn (he pins s σ H _ I h) fun v s1 ⟨y, H1, I1, r1, q1⟩ => ?_) hs
  exact store_ok I1 hN hi hx r1 (fun s2 I2 => ⟨_, H1, I2, q1⟩) hf
/-- a, b = x, y with plain local names: stored from the right; the pair itself is not tracked (the opening rows as in PyProof/Rows/TupAssign.lean:23) -/
def tPar (i j : Nat) (ta : TA) : TS := fun D σ H => ta σ H fun vs H1 => ∃ v w, vs = [v, w] ∧ D.nx ((σ.set i (some v)).set j (some w)) H1
theorem ps_par {i j : Nat} {x y : Str} {a b : Expr} {ta : TA} {px py pt : Pos} {kt k2 pt2} (hc : X.calm = true) (hN : X.N.Nodup) (hi : X.N[i]? = some x) (hj : X.N[j]? = some y) (hij : i ≠ j)
    (hx : X.env.scope.names.lookup x = some .local) (hy : X.env.scope.names.lookup y = some .local) (ha : PA X [a, b] ta)
    (hw : swappedStores [.Tuple [.Name x px, .Name y py] kt pt] (.Tuple [a, b] k2 pt2) X.env = pure (some [x, y]))
    (hs : swapsWithSole [.Tuple [.Name x px, .Name y py] kt pt] (.Tuple [a, b] k2 pt2) pos.line X.env = pure false := by rfl) :
    PS X (.Assign [.Tuple [.Name x px, .Name y py] kt pt] (.Tuple [a, b] k2 pt2) pos) (tPar i j ta) := by
  intro pins s σ H D I h
  rw [exec_Assign_arm]
  refine wpAny_bind (wpAny_standAt ?_)
  rw [hs]
  refine wpAny_bind (wpAny_pure ?_)
  rw [if_neg (by decide)]
  refine wpAny_bind (Tuple_ (thn (ha _ pins s σ H _ I h) fun us s1 ⟨vs, H1, I1, r1, q1⟩ => ?_))
  obtain ⟨v, w, e1, q1⟩ := q1
  subst e1
  obtain ⟨u1, u2, rfl, rv, rw'⟩ : ∃ u1 u2, us = [u1, u2] ∧ RelV v u1 ∧ RelV w u2 := by
    cases r1 with
    | cons p q =>
      cases q with
      | cons p' q' =>
        cases q'
        exact ⟨_, _, rfl, p, p'⟩
  refine wpAny_newObj_type ?_ (by show 2 ≤ sizeLine; decide)
  have I2 : Inv X pins σ H1 { s1 with heap := s1.heap.push { cls := .type "tuple", data := .seq [u1, u2].toArray } } := I1.kept (t' := s1.toks) fun b o e => Heap.get?_push_of_some _ e
  rw [hw]
  refine wpAny_bind (wpAny_pure ?_)
  show wpAny (model X.prog X.w) X.A (do rule "assign.swapped-stores"; let items ← unpackItems (.ref s1.heap.objs.size) 2 none; assignInOrder [fun v => bindName X.env y v, fun v => bindName X.env x v] items.reverse; pure Flow.next) _ _ _
  refine wpAny_bind (wpAny_rule (wpAny_bind (unpackItems_tuple (items := #[u1, u2]) (I.ok.hd hc) (IsTup.new s1.heap _) fun h' hx' => ?_)))
  have I3 := I2.kept (h' := h') (t' := s1.toks) fun b o e => hx' b o (Nat.ne_of_lt (Heap.lt_size e)) e
  show wpAny _ _ (assignInOrder [fun v => bindName X.env y v, fun v => bindName X.env x v] [u2, u1] >>= fun _ => pure Flow.next) _ _ _
  refine wpAny_bind (assignInOrder_cons (wpAny_bindName (store_ok I3 hN hj (.inl hy) rw' (fun s2 I4 => ?_) (.inr hy))))
  refine assignInOrder_cons (wpAny_bindName (store_ok I4 hN hi (.inl hx) rv (fun s3 I5 => assignInOrder_nil (wpAny_pure ?_)) (.inr hx)))
  rw [List.set_comm _ _ (Ne.symm hij)] at I5
  exact ⟨_, H1, I5, q1⟩
end
/-! ### while -/
section
variable {X : Cx} {pos : Pos}
/-- the invariant W with its measure -/
def tWhile (c : TT) (tb : TS) : TS := fun D σ H => ∃ W : Nat → St → Hp → Prop, (∃ m, W m σ H) ∧ ∀ m σ H, W m σ H →
  c σ H fun b H1 => if b = true then ∃ N : St → Hp → Prop, (∀ σ' H', N σ' H' → ∃ m', m' < m ∧ W m' σ' H') ∧ tb { D with nx := N, ct := N, bk := D.nx } σ H1 else D.nx σ H1
theorem ps_while {c : Expr} {body : List Stmt} {tc : TT} {tb : TS} (hp : PassesOwn (model X.prog X.w) X.A X.env X.xe) (hc : PT X c tc) (hb : PSs X body tb) : PS X (.While c body [] pos) (tWhile tc tb) := by
  intro pins s σ H D I h
  obtain ⟨W, ⟨m0, w0⟩, turn⟩ := h
  refine wpAny_While (codeAny_whileLoop (fun n s' => ∃ σ' H', Inv X pins σ' H' s' ∧ W n σ' H') ?_ m0 ⟨σ, H, I, w0⟩)
  rintro n s1 ⟨σ1, H1, I1, w1⟩
  refine wpAny_passesOwn hp (thn (hc pins s1 σ1 H1 _ I1 (turn n σ1 H1 w1)) fun b s2 ⟨H2, I2, q2⟩ => ?_)
  cases b with
  | true =>
    obtain ⟨N, hN, q2⟩ := q2
    rw [if_pos rfl]
    refine wpAny_passesOwn hp (thn (hb pins s2 σ1 H2 _ I2 q2) fun f s3 q3 => ?_)
    cases f with
    | next =>
      obtain ⟨σ3, H3, I3, n3⟩ := q3
      obtain ⟨m', hm, w3⟩ := hN σ3 H3 n3
      exact ⟨m', hm, σ3, H3, I3, w3⟩
    | cont =>
      obtain ⟨σ3, H3, I3, n3⟩ := q3
      obtain ⟨m', hm, w3⟩ := hN σ3 H3 n3
      exact ⟨m', hm, σ3, H3, I3, w3⟩
    | brk => exact q3
    | ret v => exact q3
  | false =>
    rw [if_neg Bool.false_ne_true]
    exact wpAny_execs_nil ⟨σ1, H2, I2, q2⟩
end
/-! ### what a loop or a comprehension walks -/
/-- at turn i: it yields x (the heap may grow), or it stops -/
structure It where
  go : Nat → Hp → Prop
  yld : Nat → Hp → V → Hp → Prop
  stop : Nat → Hp → Prop
/-- the iterator's own objects may turn: they are not the frame's, not pinned, younger than the entry (or a comprehension's own) -/
def FpOk (X : Cx) (pins : List (Addr × Obj)) (H : Hp) (b : Addr) : Prop :=
  H b = none ∧ b ≠ X.env.locals ∧ b ∉ X.fs ∧ (b ∈ X.ex ∨ X.s₀.heap.objs.size ≤ b) ∧ (∀ x c, X.env.cells.lookup x = some c → c ≠ b) ∧ ∀ p ∈ X.pn ++ pins, p.1 ≠ b
theorem Inv.fpOk {X : Cx} {pins : List (Addr × Obj)} {σ : St} {H H' : Hp} {s : Shared} {b : Addr} (I : Inv X pins σ H s) (hb : s.heap.objs.size ≤ b) (hn : H' b = none) : FpOk X pins H' b := by
  refine ⟨hn, Nat.ne_of_gt (Nat.lt_of_lt_of_le I.lt hb), I.nofs hb, .inr (Nat.le_trans I.sz hb), fun x c e z => ?_, fun p hp z => ?_⟩
  · obtain ⟨v, q⟩ := I.cell x c e
    exact absurd (Nat.lt_of_lt_of_le q.lt (by rw [z]; exact hb)) (Nat.lt_irrefl _)
  · exact absurd (Nat.lt_of_lt_of_le (Heap.lt_size (I.pin p hp).1) (by rw [z]; exact hb)) (Nat.lt_irrefl _)
structure Turn (P : Program) (w : World) (K : PySem.W.Frag) (tg : Expr) (J : It) (fp : List Addr) (it : Addr) (tn : Nat → Heap → Prop) : Prop where
  mem : it ∈ fp
  obj : ∀ i h, tn i h → ∀ b ∈ fp, ∃ o, h.get? b = some o ∧ ∀ v, o.data ≠ .cell v
  keep : ∀ i h h', tn i h → (∀ b ∈ fp, ∀ o, h.get? b = some o → h'.get? b = some o) → tn i h'
  item : ∀ (X : Cx), X.prog = P → X.w = w → X.K = K → X.calm = true → ∀ (i : Nat) (pins : List (Addr × Obj)) (s : Shared) (σ : St) (H : Hp) (E : Value → Shared → Prop), Inv X pins σ H s → (∀ b ∈ fp, FpOk X pins H b) → tn i s.heap → J.go i H →
    wpAny (model P w) X.A (pyNext (.ref it)) (fun r s1 => ∃ u, r = some u ∧
      wpAny (model P w) X.A (letOwnedTupleGo tg (.ref it) u) (fun _ s2 => ∃ x H', Inv X pins σ H' s2 ∧ RelV x u ∧ J.yld i H x H' ∧ tn (i + 1) s2.heap ∧ ∀ b ∈ fp, H' b = none) E s1) E s
  done : ∀ (X : Cx), X.prog = P → X.w = w → X.K = K → X.calm = true → ∀ (i : Nat) (pins : List (Addr × Obj)) (s : Shared) (σ : St) (H : Hp) (E : Value → Shared → Prop), Inv X pins σ H s → (∀ b ∈ fp, FpOk X pins H b) → tn i s.heap → J.stop i H →
    wpAny (model P w) X.A (pyNext (.ref it)) (fun r s1 => r = none ∧ Inv X pins σ H s1) E s
  self : ∀ (A : Around) (i : Nat) (s : Shared) (Q : Value → Shared → Prop) (E : Value → Shared → Prop), tn i s.heap → Q (.ref it) s → wpAny (model P w) A (pyIter (.ref it)) Q E s
abbrev TI := St → Hp → (It → Hp → Prop) → Prop
/-- an iterator has come -/
def PIE (X : Cx) (pins : List (Addr × Obj)) (σ : St) (tg : Expr) (R : It → Hp → Prop) (itv : Value) (s2 : Shared) : Prop :=
  ∃ (it : Addr) (fp : List Addr) (tn : Nat → Heap → Prop) (J : It) (H' : Hp), itv = .ref it ∧ Inv X pins σ H' s2 ∧ Turn X.prog X.w X.K tg J fp it tn ∧ tn 0 s2.heap ∧ (∀ b ∈ fp, FpOk X pins H' b) ∧ R J H'
def PI (X : Cx) (tg iter : Expr) (wi : TI) : Prop :=
  ∀ (pins : List (Addr × Obj)) (s : Shared) (σ : St) (H : Hp) (R : It → Hp → Prop), Inv X pins σ H s → wi σ H R →
    wpAny (model X.prog X.w) X.A (eval iter X.env) (fun v s1 => wpAny (model X.prog X.w) X.A (pyIter v) (PIE X pins σ tg R) X.xe s1) X.xe s
/-- the step ahead of the store is nothing for an iterator that keeps no tuple -/
theorem go_of {M : Model} {A : Around} {E : Value → Shared → Prop} {s : Shared} {tg : Expr} {it : Addr} {u : Value} {o : Obj} {n : String} {vs : Array Value} {Q : Unit → Shared → Prop} (ho : s.heap.get? it = some o) (hc : o.cls = .type n) (hd : o.data = .fields vs)
    (hn : ["enumerate", "zip", "dict_itemiterator", "dict_reverseitemiterator", "odict_iterator", "itertools.zip_longest", "itertools.pairwise"].contains n = false) (hQ : Q () s) : wpAny M A (letOwnedTupleGo tg (.ref it) u) Q E s := by
  unfold letOwnedTupleGo
  cases tg <;> first
    | exact wpAny_pure hQ
    | (cases u <;> first
        | exact wpAny_pure hQ
        | (refine wpAny_bind (wpAny_load ho ?_)
           rw [hc, hd]
           show wpAny M A (if (["enumerate", "zip", "dict_itemiterator", "dict_reverseitemiterator", "odict_iterator", "itertools.zip_longest", "itertools.pairwise"].contains n && vs[0]? == some (rawInt _)) = true then _ else _) Q E s
           rw [if_neg (by intro h; rw [hn, Bool.false_and] at h; cases h)]
           exact wpAny_pure hQ))
/-- the list at a, as it stands at each turn (a loop may append to it) -/
def Itl (K : PySem.W.Frag) (a : Addr) : It :=
  ⟨fun i H => ∃ xs x, SqL K H a xs ∧ xs[i]? = some x, fun i H x H' => H' = H ∧ ∀ xs, SqL K H a xs → xs[i]? = some x, fun i H => ∃ xs, SqL K H a xs ∧ xs.length ≤ i⟩
def Itt (K : PySem.W.Frag) (a : Addr) : It :=
  ⟨fun i H => ∃ xs x, SqT K H a xs ∧ xs[i]? = some x, fun i H x H' => H' = H ∧ ∀ xs, SqT K H a xs → xs[i]? = some x, fun i H => ∃ xs, SqT K H a xs ∧ xs.length ≤ i⟩
/-- lo, lo + 1, .. (n of them) -/
def Itr (lo : Int) (n : Nat) : It := ⟨fun i _ => i < n, fun i H x H' => H' = H ∧ x = .int (lo + i), fun i _ => n ≤ i⟩
theorem turn_list {P : Program} {w : World} {K : PySem.W.Frag} {tg : Expr} (a it : Addr) : Turn P w K tg (Itl K a) [it] it (fun i h => h.IsListIter it a i) where
  mem := by simp
  obj := fun i h st b hb => by
    have e : b = it := by simpa using hb
    subst e
    obtain ⟨o, e, c, d⟩ := st
    exact ⟨o, e, fun v z => by rw [d] at z; cases z⟩
  keep := fun i h h' st k => st.at fun o e => k it (by simp) o e
  item := by
    intro X hP hw hK hc i pins s σ H E I hf st hg
    subst hP hw hK
    obtain ⟨xs, x, hq, hx⟩ := hg
    obtain ⟨its, rv, p, hz⟩ := I.list hq
    obtain ⟨u, hu, ru⟩ := rv.get hx
    obtain ⟨f0, f1, f2, f3, f4, f5⟩ := hf it (by simp)
    refine wpAny_pyNext_list_item st p.isList (x := u) (by simpa using hu) fun h' st' sb => ?_
    have I1 : Inv X pins σ H { s with heap := h' } := I.turned (t' := s.toks) (fun b o hb e => (sb.2 b hb).trans e) f0 f1 f3 f4 f5
    obtain ⟨o, e, c, d⟩ := id st'
    exact ⟨u, rfl, go_of (s := { s with heap := h' }) e c d (by decide) ⟨x, H, I1, ru, ⟨rfl, fun ys hy => by rw [I.list_inj hy hq]; exact hx⟩, st', fun b hb => (hf b hb).1⟩⟩
  done := by
    intro X hP hw hK hc i pins s σ H E I hf st hg
    subst hP hw hK
    obtain ⟨xs, hq, hx⟩ := hg
    obtain ⟨its, rv, p, hz⟩ := I.list hq
    obtain ⟨f0, f1, f2, f3, f4, f5⟩ := hf it (by simp)
    have hl := rv.length
    exact wpAny_pyNext_list_end (I.ok.hd hc) st p.isList (by simp; (first | lia | omega)) fun h' eb => ⟨rfl, I.turned (t' := s.toks) (fun b o hb e => eb b o hb e) f0 f1 f3 f4 f5⟩
  self := fun _ _ _ _ _ st h => wpAny_pyIter_listiter st h
theorem turn_tuple {P : Program} {w : World} {K : PySem.W.Frag} {tg : Expr} (a it : Addr) : Turn P w K tg (Itt K a) [it] it (fun i h => h.IsTupleIter it a i) where
  mem := by simp
  obj := fun i h st b hb => by
    have e : b = it := by simpa using hb
    subst e
    obtain ⟨o, e, c, d⟩ := st
    exact ⟨o, e, fun v z => by rw [d] at z; cases z⟩
  keep := fun i h h' st k => st.at fun o e => k it (by simp) o e
  item := by
    intro X hP hw hK hc i pins s σ H E I hf st hg
    subst hP hw hK
    obtain ⟨xs, x, hq, hx⟩ := hg
    obtain ⟨its, rv, p, hz⟩ := I.tuple hq
    obtain ⟨u, hu, ru⟩ := rv.get hx
    obtain ⟨f0, f1, f2, f3, f4, f5⟩ := hf it (by simp)
    refine wpAny_pyNext_tuple_item st (show s.heap.IsTuple a its.toArray from p) (x := u) (by simpa using hu) fun h' st' sb => ?_
    have I1 : Inv X pins σ H { s with heap := h' } := I.turned (t' := s.toks) (fun b o hb e => (sb.2 b hb).trans e) f0 f1 f3 f4 f5
    obtain ⟨o, e, c, d⟩ := id st'
    exact ⟨u, rfl, go_of (s := { s with heap := h' }) e c d (by decide) ⟨x, H, I1, ru, ⟨rfl, fun ys hy => by rw [I.tuple_inj hy hq]; exact hx⟩, st', fun b hb => (hf b hb).1⟩⟩
  done := by
    intro X hP hw hK hc i pins s σ H E I hf st hg
    subst hP hw hK
    obtain ⟨xs, hq, hx⟩ := hg
    obtain ⟨its, rv, p, hz⟩ := I.tuple hq
    obtain ⟨f0, f1, f2, f3, f4, f5⟩ := hf it (by simp)
    have hl := rv.length
    exact wpAny_pyNext_tuple_end (I.ok.hd hc) st (show s.heap.IsTuple a its.toArray from p) (by simp; (first | lia | omega)) fun h' eb => ⟨rfl, I.turned (t' := s.toks) (fun b o hb e => eb b o hb e) f0 f1 f3 f4 f5⟩
  self := fun _ _ _ _ _ st h => wpAny_pyIter_tupleiter st h
theorem turn_range {P : Program} {w : World} {K : PySem.W.Frag} {tg : Expr} (it : Addr) (lo : Int) (n : Nat) : Turn P w K tg (Itr lo n) [it] it (fun i h => IsRangeIter h it (lo + (i : Nat) * 1) ((n : Int) - (i : Nat)) 1) where
  mem := by simp
  obj := fun i h st b hb => by
    have e : b = it := by simpa using hb
    subst e
    exact ⟨_, st, fun v z => by
      have z' : Data.fields _ = Data.cell v := z
      cases z'⟩
  keep := fun i h h' st k => k it (by simp) _ st
  item := by
    intro X hP hw hK hc i pins s σ H E I hf st hg
    subst hP hw hK
    obtain ⟨f0, f1, f2, f3, f4, f5⟩ := hf it (by simp)
    have W := Walks.range (prog := X.prog) (w := X.w) (I.ok.hd hc) it lo 1 n
    refine W.item i s _ _ hg st fun v h' tk hv st' kk => ?_
    obtain ⟨t, rfl⟩ := hv
    have I1 : Inv X pins σ H { s with heap := h', toks := tk } := I.turned (fun b o hb e => kk b o (by simpa using hb) e) f0 f1 f3 f4 f5
    refine ⟨_, rfl, go_of (s := { s with heap := h', toks := tk }) (n := "range_iterator") st' rfl rfl (by decide) ⟨.int (lo + i), H, I1, ⟨t, ?_⟩, ⟨rfl, rfl⟩, st', fun b hb => (hf b hb).1⟩⟩
    rw [Int.mul_one]
  done := by
    intro X hP hw hK hc i pins s σ H E I hf st hg
    subst hP hw hK
    obtain ⟨f0, f1, f2, f3, f4, f5⟩ := hf it (by simp)
    exact wpAny_pyNext_range_end (I.ok.hd hc) st (by have : n ≤ i := hg; (first | lia | omega)) fun h' eb => ⟨rfl, I.turned (t' := s.toks) (fun b o hb e => eb b o hb e) f0 f1 f3 f4 f5⟩
  self := fun _ _ _ _ _ st h => wpAny_pyIter_rangeiter st h
end L2
namespace L2
open PySem PySem.Spec PyProof.Rows
section
variable {X : Cx} {tg : Expr}
def iList (K : PySem.W.Frag) (tl : TE) : TI := fun σ H R => tl σ H fun x H1 => ∃ a, x = .ref a ∧ (∃ xs, SqL K H1 a xs) ∧ R (Itl K a) H1
def iTup (K : PySem.W.Frag) (tl : TE) : TI := fun σ H R => tl σ H fun x H1 => ∃ a, x = .ref a ∧ (∃ xs, SqT K H1 a xs) ∧ R (Itt K a) H1
theorem pi_list {l : Expr} {tl : TE} (hl : PE X l tl) : PI X tg l (iList X.K tl) := by
  intro pins s σ H R I h
  refine thn (hl pins s σ H _ I h) fun v s1 ⟨x, H1, I1, r1, q1⟩ => ?_
  obtain ⟨a, e, ⟨xs, hq⟩, q⟩ := q1
  subst e
  cases r1
  obtain ⟨its, rv, p, hz⟩ := I1.list hq
  refine wpAny_pyIter_list p.isList ?_
  refine ⟨s1.heap.objs.size, [s1.heap.objs.size], _, _, H1, rfl, I1.kept (t' := s1.toks) fun b o e => Heap.get?_push_of_some _ e, turn_list a _, ⟨_, Heap.get?_push_size _ rfl, rfl, rfl⟩, fun b hb => ?_, q⟩
  have e : b = s1.heap.objs.size := by simpa using hb
  subst e
  exact I1.fpOk (Nat.le_refl _) (I1.hok.fresh (Nat.le_refl _))
theorem pi_tup {l : Expr} {tl : TE} (hl : PE X l tl) : PI X tg l (iTup X.K tl) := by
  intro pins s σ H R I h
  refine thn (hl pins s σ H _ I h) fun v s1 ⟨x, H1, I1, r1, q1⟩ => ?_
  obtain ⟨a, e, ⟨xs, hq⟩, q⟩ := q1
  subst e
  cases r1
  obtain ⟨its, rv, p, hz⟩ := I1.tuple hq
  refine wpAny_pyIter_tuple (show s1.heap.IsTuple a its.toArray from p) ?_
  refine ⟨s1.heap.objs.size, [s1.heap.objs.size], _, _, H1, rfl, I1.kept (t' := s1.toks) fun b o e => Heap.get?_push_of_some _ e, turn_tuple a _, ⟨_, Heap.get?_push_size _ rfl, rfl, rfl⟩, fun b hb => ?_, q⟩
  have e : b = s1.heap.objs.size := by simpa using hb
  subst e
  exact I1.fpOk (Nat.le_refl _) (I1.hok.fresh (Nat.le_refl _))
/-- a range object just made, walked -/
theorem range_it {pins : List (Addr × Obj)} {σ : St} {H : Hp} {s : Shared} {R : It → Hp → Prop} {E : Value → Shared → Prop} {lo hi : Int} {t u v : Tok} {tk : Nat} (I : Inv X pins σ H s) (h1 : -(2 ^ 62) ≤ lo) (h2 : lo < 2 ^ 62) (h3 : -(2 ^ 62) ≤ hi) (h4 : hi < 2 ^ 62)
    (q : R (Itr lo (hi - lo).toNat) H) : wpAny (model X.prog X.w) X.A (pyIter (.ref s.heap.objs.size)) (PIE X pins σ tg R) E { s with heap := s.heap.push { cls := .type "range", data := .fields #[.int lo t, .int hi u, .int 1 v] }, toks := tk } := by
  refine wpAny_pyIter_range (IsRange.new ..) (small_one h1 h2 h3 h4) ?_
  have I1 : Inv X pins σ H { s with heap := s.heap.push { cls := .type "range", data := .fields #[.int lo t, .int hi u, .int 1 v] }, toks := tk } := I.kept fun b o e => Heap.get?_push_of_some _ e
  refine ⟨(s.heap.push { cls := .type "range", data := .fields #[.int lo t, .int hi u, .int 1 v] }).objs.size, [(s.heap.push { cls := .type "range", data := .fields #[.int lo t, .int hi u, .int 1 v] }).objs.size], _, _, H, rfl,
    I1.kept (t' := tk) fun b o e => Heap.get?_push_of_some _ e, turn_range _ lo (hi - lo).toNat, ?_, fun b hb => ?_, q⟩
  · have e1 : lo + ((0 : Nat) : Int) * 1 = lo := by simp
    have e2 : (((hi - lo).toNat : Nat) : Int) - ((0 : Nat) : Int) = Builtin.Range.rangeSize lo hi 1 := by rw [rangeSize_one]; split <;> (first | lia | omega)
    show IsRangeIter _ _ (lo + ((0 : Nat) : Int) * 1) ((((hi - lo).toNat : Nat) : Int) - ((0 : Nat) : Int)) 1
    rw [e1, e2]
    exact Heap.get?_push_size _ rfl
  · have e : b = (s.heap.push { cls := .type "range", data := .fields #[.int lo t, .int hi u, .int 1 v] }).objs.size := by simpa using hb
    subst e
    exact I1.fpOk (Nat.le_refl _) (I1.hok.fresh (Nat.le_refl _))
def iRng1 (ta : TA) : TI := fun σ H R => ta σ H fun vs H1 => ∃ j : Int, vs = [.int j] ∧ -(2 ^ 62) ≤ j ∧ j < 2 ^ 62 ∧ R (Itr 0 j.toNat) H1
def iRng2 (ta : TA) : TI := fun σ H R => ta σ H fun vs H1 => ∃ i j : Int, vs = [.int i, .int j] ∧ (-(2 ^ 62) ≤ i ∧ i < 2 ^ 62 ∧ -(2 ^ 62) ≤ j ∧ j < 2 ^ 62) ∧ R (Itr i (j - i).toNat) H1
theorem pi_range1 {a : Expr} {ta : TA} {p pos : Pos} (hg : Gl X "range") (hm : X.mg "range" = none) (ha : PA X [a] ta) (hs : starEach [a] X.env = [(false, eval a X.env)] := by rfl) : PI X tg (.Call (.Name "range" p) [a] [] pos) (iRng1 ta) := by
  intro pins s σ H R I h
  refine Call_ (ld_blt I hg hm boot_range (PyProof.Rows.callWith_type1 (thn (ha pos pins s σ H _ I h) fun us s1 ⟨vs, H1, I1, r1, q1⟩ => ?_) hs rfl))
  obtain ⟨j, e, q1, q2, q⟩ := q1
  subst e
  cases r1 with
  | cons r rr =>
    cases rr
    obtain ⟨t, rfl⟩ := r
    exact call_range_1 (range_it I1 (by (first | lia | omega)) (by (first | lia | omega)) q1 q2 (by simpa using q))
theorem pi_range2 {a b : Expr} {ta : TA} {p pos : Pos} (hg : Gl X "range") (hm : X.mg "range" = none) (ha : PA X [a, b] ta) (hs : starEach [a, b] X.env = [(false, eval a X.env), (false, eval b X.env)] := by rfl) (hs2 : starEach [b] X.env = [(false, eval b X.env)] := by rfl) :
    PI X tg (.Call (.Name "range" p) [a, b] [] pos) (iRng2 ta) := by
  intro pins s σ H R I h
  refine Call_ (ld_blt I hg hm boot_range (PyProof.Rows.callWith_type1 (thn (ha pos pins s σ H _ I h) fun us s1 ⟨vs, H1, I1, r1, q1⟩ => ?_) (by rw [hs, hs2]) (by rw [hs2]; rfl)))
  obtain ⟨i, j, e, ⟨q1, q2, q3, q4⟩, q⟩ := q1
  subst e
  cases r1 with
  | cons r rr =>
    cases rr with
    | cons r' rr =>
      cases rr
      obtain ⟨t, rfl⟩ := r
      obtain ⟨t', rfl⟩ := r'
      exact call_range_2 (range_it I1 q1 q2 q3 q4 q)
/-! ### for -/
/-- W: the invariant by the turn and a measure; N: what the body is to reach -/
def tFor (wi : TI) (g : TG) (tb : TS) : TS := fun D σ H => wi σ H fun J H1 => ∃ W : Nat → Nat → St → Hp → Prop, (∃ m, W 0 m σ H1) ∧ ∀ i m σ H, W i m σ H →
  (J.stop i H ∧ D.nx σ H) ∨ (J.go i H ∧ ∃ N : St → Hp → Prop, (∀ σ' H', N σ' H' → ∃ m', m' < m ∧ W (i + 1) m' σ' H') ∧ ∀ x H', J.yld i H x H' → g x σ H' fun σ2 H2 => tb { D with nx := N, ct := N, bk := D.nx } σ2 H2)
/-- the records at fp as they stand -/
def pinsAt (fp : List Addr) (h : Heap) : List (Addr × Obj) := fp.filterMap fun b => (h.get? b).map fun o => (b, o)
theorem mem_pinsAt {fp : List Addr} {h : Heap} {b : Addr} {o : Obj} (hb : b ∈ fp) (e : h.get? b = some o) : (b, o) ∈ pinsAt fp h := List.mem_filterMap.mpr ⟨b, hb, by rw [e]; rfl⟩
theorem of_pinsAt {fp : List Addr} {h : Heap} {p : Addr × Obj} (hp : p ∈ pinsAt fp h) : p.1 ∈ fp ∧ h.get? p.1 = some p.2 := by
  obtain ⟨b, hb, e⟩ := List.mem_filterMap.mp hp
  cases q : h.get? b with
  | none => rw [q] at e; cases e
  | some o =>
    rw [q] at e
    have e' : (b, o) = p := Option.some.inj e
    subst e'
    exact ⟨hb, q⟩
theorem Inv.pinned {pins : List (Addr × Obj)} {σ : St} {H : Hp} {s : Shared} {fp : List Addr} (I : Inv X pins σ H s) (hf : ∀ b ∈ fp, FpOk X pins H b) (ho : ∀ b ∈ fp, ∃ o, s.heap.get? b = some o ∧ ∀ v, o.data ≠ .cell v) : Inv X (pins ++ pinsAt fp s.heap) σ H s :=
  I.pins_of fun p hp => (List.mem_append.mp hp).elim (fun z => I.pin p (List.mem_append_right _ z)) fun z => by
    obtain ⟨hb, e⟩ := of_pinsAt z
    obtain ⟨f0, f1, f2, _⟩ := hf p.1 hb
    obtain ⟨o, e', d⟩ := ho p.1 hb
    rw [e] at e'; cases e'
    exact ⟨e, f0, f1, f2, d⟩
theorem Inv.unpinned {pins pl : List (Addr × Obj)} {σ : St} {H : Hp} {s : Shared} (I : Inv X (pins ++ pl) σ H s) : Inv X pins σ H s := I.pins_of fun p hp => I.pin p (List.mem_append_right _ (List.mem_append_left _ hp))
theorem ps_for {iter : Expr} {body : List Stmt} {wi : TI} {g : TG} {tb : TS} {pos : Pos} (hp : PassesOwn (model X.prog X.w) X.A X.env X.xe) (hc : X.calm = true) (hi : PI X tg iter wi) (hg : PG X tg g) (hb : PSs X body tb)
    (hs : ∀ x, foldedSetIterable iter X.env x = pure x := by intro _; rfl) : PS X (.For tg iter body [] pos) (tFor wi g tb) := by
  intro pins s σ H D I h
  refine wpAny_For (thn (hi pins s σ H _ I h) fun v s1 h1 => thn h1 fun itv s2 h2 => ?_) hs
  obtain ⟨it, fp, tn, J, H2, e, I2, T, st2, f2, W, ⟨m0, w0⟩, turn⟩ := h2
  subst e
  -- what stays true of the iterator's objects through the loop
  have stat : ∀ {H' : Hp}, (∀ b ∈ fp, H' b = none) → ∀ b ∈ fp, FpOk X pins H' b := fun hn b hb => ⟨hn b hb, (f2 b hb).2⟩
  refine codeAny_forLoop_any (fun n s' => ∃ i σ' H', Inv X pins σ' H' s' ∧ tn i s'.heap ∧ (∀ b ∈ fp, H' b = none) ∧ W i n σ' H') ?_ m0 ⟨0, σ, H2, I2, st2, fun b hb => (f2 b hb).1, w0⟩
  rintro n s3 ⟨i, σ3, H3, I3, st3, fr3, w3⟩
  rcases turn i n σ3 H3 w3 with ⟨stop, qn⟩ | ⟨go, N, hN, step⟩
  · refine wpAny_passesOwn hp (thn (T.done X rfl rfl rfl hc i pins s3 σ3 H3 X.xe I3 (stat fr3) st3 stop) fun r s4 ⟨hr, I4⟩ => ?_)
    subst hr
    exact wpAny_execs_nil ⟨σ3, H3, I4, qn⟩
  · refine wpAny_passesOwn hp (thn (T.item X rfl rfl rfl hc i pins s3 σ3 H3 X.xe I3 (stat fr3) st3 go) fun r s4 ⟨u, hr, h4⟩ => ?_)
    subst hr
    refine wpAny_passesOwn hp (thn h4 fun _ s5 ⟨x, H5, I5, r5, y5, st5, fr5⟩ => ?_)
    have I5' := I5.pinned (stat fr5) (T.obj _ _ st5)
    refine wpAny_passesOwn hp (thn (hg _ s5 σ3 H5 x u _ I5' r5 (step x H5 y5)) fun _ s6 ⟨σ6, H6, I6, q6⟩ => ?_)
    refine wpAny_passesOwn hp (thn (hb _ s6 σ6 H6 _ I6 q6) fun f s7 q7 => ?_)
    have again : ∀ {σ7 : St} {H7 : Hp}, Inv X (pins ++ pinsAt fp s5.heap) σ7 H7 s7 → N σ7 H7 → ∃ m, m < n ∧ ∃ i σ' H', Inv X pins σ' H' s7 ∧ tn i s7.heap ∧ (∀ b ∈ fp, H' b = none) ∧ W i m σ' H' := fun {σ7 H7} I7 n7 => by
      obtain ⟨m', hm, w7⟩ := hN σ7 H7 n7
      refine ⟨m', hm, i + 1, σ7, H7, I7.unpinned, T.keep _ _ _ st5 fun b hb o e => (I7.pin (b, o) (List.mem_append_right _ (List.mem_append_right _ (mem_pinsAt hb e)))).1, fun b hb => ?_, w7⟩
      obtain ⟨o, e, d⟩ := T.obj _ _ st5 b hb
      exact (I7.pin (b, o) (List.mem_append_right _ (List.mem_append_right _ (mem_pinsAt hb e)))).2.1
    cases f with
    | next => obtain ⟨σ7, H7, I7, n7⟩ := q7; exact again I7 n7
    | cont => obtain ⟨σ7, H7, I7, n7⟩ := q7; exact again I7 n7
    | brk => obtain ⟨σ7, H7, I7, q7⟩ := q7; exact ⟨σ7, H7, I7.unpinned, q7⟩
    | ret v => obtain ⟨x7, σ7, H7, I7, r7, q7⟩ := q7; exact ⟨x7, σ7, H7, I7.unpinned, r7, q7⟩
end
/-! ### the forms one uses -/
/-- over a list that the body leaves as it is -/
theorem for_list {K : PySem.W.Frag} {a : Addr} {xs : List V} {g : TG} {tb : TS} {D : Ends} {σ : St} {H : Hp} (Pv : Nat → St → Hp → Prop) (h0 : Pv 0 σ H) (hl : ∀ i σ H, i ≤ xs.length → Pv i σ H → SqL K H a xs)
    (hs : ∀ i x σ H, xs[i]? = some x → Pv i σ H → g x σ H fun σ2 H2 => tb { D with nx := Pv (i + 1), ct := Pv (i + 1), bk := D.nx } σ2 H2) (hd : ∀ σ H, Pv xs.length σ H → D.nx σ H) :
    ∃ W : Nat → Nat → St → Hp → Prop, (∃ m, W 0 m σ H) ∧ ∀ i m σ H, W i m σ H →
      ((Itl K a).stop i H ∧ D.nx σ H) ∨ ((Itl K a).go i H ∧ ∃ N : St → Hp → Prop, (∀ σ' H', N σ' H' → ∃ m', m' < m ∧ W (i + 1) m' σ' H') ∧ ∀ x H', (Itl K a).yld i H x H' → g x σ H' fun σ2 H2 => tb { D with nx := N, ct := N, bk := D.nx } σ2 H2) := by
  refine ⟨fun i m σ H => m = xs.length - i ∧ i ≤ xs.length ∧ Pv i σ H, ⟨xs.length, by simp, Nat.zero_le _, h0⟩, ?_⟩
  rintro i m σ H ⟨rfl, hi, p⟩
  have q := hl i σ H hi p
  by_cases hlt : i < xs.length
  · refine .inr ⟨⟨xs, xs[i], q, by simp [hlt]⟩, Pv (i + 1), fun σ' H' p' => ⟨xs.length - (i + 1), by (first | lia | omega), rfl, hlt, p'⟩, fun x H' y => ?_⟩
    obtain ⟨e, y⟩ := y
    subst e
    exact hs i x σ _ (y xs q) p
  · have e : i = xs.length := by (first | lia | omega)
    subst e
    exact .inl ⟨⟨xs, q, Nat.le_refl _⟩, hd σ H p⟩
theorem for_tup {K : PySem.W.Frag} {a : Addr} {xs : List V} {g : TG} {tb : TS} {D : Ends} {σ : St} {H : Hp} (Pv : Nat → St → Hp → Prop) (h0 : Pv 0 σ H) (hl : ∀ i σ H, i ≤ xs.length → Pv i σ H → SqT K H a xs)
    (hs : ∀ i x σ H, xs[i]? = some x → Pv i σ H → g x σ H fun σ2 H2 => tb { D with nx := Pv (i + 1), ct := Pv (i + 1), bk := D.nx } σ2 H2) (hd : ∀ σ H, Pv xs.length σ H → D.nx σ H) :
    ∃ W : Nat → Nat → St → Hp → Prop, (∃ m, W 0 m σ H) ∧ ∀ i m σ H, W i m σ H →
      ((Itt K a).stop i H ∧ D.nx σ H) ∨ ((Itt K a).go i H ∧ ∃ N : St → Hp → Prop, (∀ σ' H', N σ' H' → ∃ m', m' < m ∧ W (i + 1) m' σ' H') ∧ ∀ x H', (Itt K a).yld i H x H' → g x σ H' fun σ2 H2 => tb { D with nx := N, ct := N, bk := D.nx } σ2 H2) := by
  refine ⟨fun i m σ H => m = xs.length - i ∧ i ≤ xs.length ∧ Pv i σ H, ⟨xs.length, by simp, Nat.zero_le _, h0⟩, ?_⟩
  rintro i m σ H ⟨rfl, hi, p⟩
  have q := hl i σ H hi p
  by_cases hlt : i < xs.length
  · refine .inr ⟨⟨xs, xs[i], q, by simp [hlt]⟩, Pv (i + 1), fun σ' H' p' => ⟨xs.length - (i + 1), by (first | lia | omega), rfl, hlt, p'⟩, fun x H' y => ?_⟩
    obtain ⟨e, y⟩ := y
    subst e
    exact hs i x σ _ (y xs q) p
  · have e : i = xs.length := by (first | lia | omega)
    subst e
    exact .inl ⟨⟨xs, q, Nat.le_refl _⟩, hd σ H p⟩
theorem for_range {lo : Int} {n : Nat} {g : TG} {tb : TS} {D : Ends} {σ : St} {H : Hp} (Pv : Nat → St → Hp → Prop) (h0 : Pv 0 σ H)
    (hs : ∀ i σ H, i < n → Pv i σ H → g (.int (lo + i)) σ H fun σ2 H2 => tb { D with nx := Pv (i + 1), ct := Pv (i + 1), bk := D.nx } σ2 H2) (hd : ∀ σ H, Pv n σ H → D.nx σ H) :
    ∃ W : Nat → Nat → St → Hp → Prop, (∃ m, W 0 m σ H) ∧ ∀ i m σ H, W i m σ H →
      ((Itr lo n).stop i H ∧ D.nx σ H) ∨ ((Itr lo n).go i H ∧ ∃ N : St → Hp → Prop, (∀ σ' H', N σ' H' → ∃ m', m' < m ∧ W (i + 1) m' σ' H') ∧ ∀ x H', (Itr lo n).yld i H x H' → g x σ H' fun σ2 H2 => tb { D with nx := N, ct := N, bk := D.nx } σ2 H2) := by
  refine ⟨fun i m σ H => m = n - i ∧ i ≤ n ∧ Pv i σ H, ⟨n, by simp, Nat.zero_le _, h0⟩, ?_⟩
  rintro i m σ H ⟨rfl, hi, p⟩
  by_cases hlt : i < n
  · refine .inr ⟨hlt, Pv (i + 1), fun σ' H' p' => ⟨n - (i + 1), by (first | lia | omega), rfl, hlt, p'⟩, fun x H' y => ?_⟩
    obtain ⟨e, y⟩ := y
    subst e y
    exact hs i σ _ hlt p
  · have e : i = n := by (first | lia | omega)
    subst e
    exact .inl ⟨Nat.le_refl _, hd σ H p⟩
end L2
namespace L2
open PySem PySem.Spec PyProof.Rows
abbrev R2 := V → V → Hp → VK → Prop
/-- a two-place operation on values: f is binaryOp op, inplaceOp op or compareOp op -/
def OpR (X : Cx) (f : Value → Value → Sem Value) (r : R2) : Prop :=
  ∀ (pins : List (Addr × Obj)) (s : Shared) (σ : St) (H : Hp) (x y : V) (v u : Value) (Q : VK), Inv X pins σ H s → RelV x v → RelV y u → r x y H Q →
    wpAny (model X.prog X.w) X.A (f v u) (EP X pins σ Q) X.xe s
/-- a one-place operation -/
def UnR (X : Cx) (f : Value → Sem Value) (r : V → Hp → VK → Prop) : Prop :=
  ∀ (pins : List (Addr × Obj)) (s : Shared) (σ : St) (H : Hp) (x : V) (v : Value) (Q : VK), Inv X pins σ H s → RelV x v → r x H Q →
    wpAny (model X.prog X.w) X.A (f v) (EP X pins σ Q) X.xe s
/-- a call of a value that is known (a builtin, a type) with values -/
def CallR (X : Cx) (f : Value) (r : List V → Hp → VK → Prop) : Prop :=
  ∀ (pins : List (Addr × Obj)) (s : Shared) (σ : St) (H : Hp) (xs : List V) (us : List Value) (Q : VK), Inv X pins σ H s → Vals xs us → r xs H Q →
    wpAny (model X.prog X.w) X.A (call f us) (EP X pins σ Q) X.xe s
def tOp (r : R2) (ta tb : TE) : TE := fun σ H Q => ta σ H fun x H1 => tb σ H1 fun y H2 => r x y H2 Q
def tUn (r : V → Hp → VK → Prop) (ta : TE) : TE := fun σ H Q => ta σ H fun x H1 => r x H1 Q
/-- ints in, under C, and a value out -/
def rI (C : Int → Int → Prop) (g : Int → Int → V) : R2 := fun x y H Q => ∃ i j, x = .int i ∧ y = .int j ∧ C i j ∧ Q (g i j) H
def rI0 (g : Int → Int → V) : R2 := fun x y H Q => ∃ i j, x = .int i ∧ y = .int j ∧ Q (g i j) H
def rU (g : Int → V) : V → Hp → VK → Prop := fun x H Q => ∃ i, x = .int i ∧ Q (g i) H
section
variable {X : Cx} {a b c : Expr} {ta tb tc : TE} {pos : Pos}
theorem binT (ha : PE X a ta) (hb : PE X b tb) {pins : List (Addr × Obj)} {s : Shared} {σ : St} {H : Hp} {R : V → V → Hp → Prop} (I : Inv X pins σ H s)
    (h : ta σ H fun x H1 => tb σ H1 fun y H2 => R x y H2) {Q : Value → Shared → Prop} {f : Value → Value → Sem Value}
    (hf : ∀ v u s2 x y H2, Inv X pins σ H2 s2 → RelV x v → RelV y u → R x y H2 → wpAny (model X.prog X.w) X.A (f v u) Q X.xe s2) :
    wpAny (model X.prog X.w) X.A (eval a X.env) (fun v s₁ => wpAny (model X.prog X.w) X.A (eval b X.env) (fun u s₂ => wpAny (model X.prog X.w) X.A (f v u) Q X.xe s₂) X.xe s₁) X.xe s := by
  refine thn (ha pins s σ H _ I h) fun v s1 ⟨x, H1, I1, r1, q1⟩ => ?_
  refine thn (hb pins s1 σ H1 _ I1 q1) fun u s2 ⟨y, H2, I2, r2, q2⟩ => ?_
  exact hf v u s2 x y H2 I2 r1 r2 q2
theorem pe_op {op : Operator} {r : R2} (ho : OpR X (binaryOp op) r) (ha : PE X a ta) (hb : PE X b tb) : PE X (.BinOp a op b pos) (tOp r ta tb) := by
  intro pins s σ H Q I h
  exact wpAny_BinOp (binT ha hb I h fun v u s2 x y H2 I2 rx ry q => ho pins s2 σ H2 x y v u Q I2 rx ry q)
theorem pe_un {op : UnaryOp} {r : V → Hp → VK → Prop} (ho : UnR X (unaryOp op) r) (ha : PE X a ta) : PE X (.UnaryOp op a pos) (tUn r ta) := by
  intro pins s σ H Q I h
  exact UnaryOp_ (thn (ha pins s σ H _ I h) fun v s1 ⟨x, H1, I1, r1, q1⟩ => ho pins s1 σ H1 x v Q I1 r1 q1)
/-! ### ints -/
theorem opI {f : Value → Value → Sem Value} {C : Int → Int → Prop} {g : Int → Int → Int}
    (rule : ∀ (i j : Int) (t u : Tok) (s : Shared) (Q : Value → Shared → Prop) (E : Value → Shared → Prop), C i j → Q (.int (g i j) s.toks) { s with toks := s.toks + 1 } → wpAny (model X.prog X.w) X.A (f (.int i t) (.int j u)) Q E s) :
    OpR X f (rI C fun i j => .int (g i j)) := by
  intro pins s σ H x y v u Q I rx ry h
  obtain ⟨i, j, rfl, rfl, hc, q⟩ := h
  obtain ⟨t, rfl⟩ := rx
  obtain ⟨t', rfl⟩ := ry
  exact rule i j t t' s _ _ hc ⟨.int (g i j), H, I.tok _, ⟨_, rfl⟩, q⟩
theorem opI0 {f : Value → Value → Sem Value} {g : Int → Int → Int}
    (rule : ∀ (i j : Int) (t u : Tok) (s : Shared) (Q : Value → Shared → Prop) (E : Value → Shared → Prop), Q (.int (g i j) s.toks) { s with toks := s.toks + 1 } → wpAny (model X.prog X.w) X.A (f (.int i t) (.int j u)) Q E s) :
    OpR X f (rI0 fun i j => .int (g i j)) := by
  intro pins s σ H x y v u Q I rx ry h
  obtain ⟨i, j, rfl, rfl, q⟩ := h
  obtain ⟨t, rfl⟩ := rx
  obtain ⟨t', rfl⟩ := ry
  exact rule i j t t' s _ _ ⟨.int (g i j), H, I.tok _, ⟨_, rfl⟩, q⟩
theorem opB0 {f : Value → Value → Sem Value} {g : Int → Int → Bool}
    (rule : ∀ (i j : Int) (t u : Tok) (s : Shared) (Q : Value → Shared → Prop) (E : Value → Shared → Prop), Q (.bool (g i j)) s → wpAny (model X.prog X.w) X.A (f (.int i t) (.int j u)) Q E s) :
    OpR X f (rI0 fun i j => .bl (g i j)) := by
  intro pins s σ H x y v u Q I rx ry h
  obtain ⟨i, j, rfl, rfl, q⟩ := h
  obtain ⟨t, rfl⟩ := rx
  obtain ⟨t', rfl⟩ := ry
  exact rule i j t t' s _ _ ⟨.bl (g i j), H, I, rfl, q⟩
def CPow (i j : Int) : Prop := 0 ≤ j ∧ j ≤ 1000000 ∧ i.natAbs < 2 ^ 64
theorem op_add : OpR X (binaryOp .Add) (rI0 fun i j => .int (i + j)) := opI0 fun _ _ _ _ _ _ _ q => add_int q
theorem op_sub : OpR X (binaryOp .Sub) (rI0 fun i j => .int (i - j)) := opI0 fun _ _ _ _ _ _ _ q => sub_int q
/-- % by a positive divisor of any size -/
theorem op_mod : OpR X (binaryOp .Mod) (rI (fun _ j => 0 < j) fun i j => .int (i % j)) := opI fun i j _ _ _ _ _ hc q => by
  have h1 : (0 : Int) < j := hc
  exact mod_int' (by (first | lia | omega)) (by rw [Int.fmod_eq_emod_of_nonneg i (by (first | lia | omega))]; exact q)
theorem op_pow : OpR X (binaryOp .Pow) (rI CPow fun i j => .int (i ^ j.toNat)) := opI fun _ _ _ _ _ _ _ hc q => pow_int_small hc.1 hc.2.1 hc.2.2 q
theorem unI {f : Value → Sem Value} {g : Int → Int}
    (rule : ∀ (i : Int) (t : Tok) (s : Shared) (Q : Value → Shared → Prop) (E : Value → Shared → Prop), Q (.int (g i) s.toks) { s with toks := s.toks + 1 } → wpAny (model X.prog X.w) X.A (f (.int i t)) Q E s) :
    UnR X f (rU fun i => .int (g i)) := by
  intro pins s σ H x v Q I rx h
  obtain ⟨i, rfl, q⟩ := h
  obtain ⟨t, rfl⟩ := rx
  exact rule i t s _ _ ⟨.int (g i), H, I.tok _, ⟨_, rfl⟩, q⟩
theorem un_neg : UnR X (unaryOp .USub) (rU fun i => .int (-i)) := unI fun _ _ _ _ _ q => neg_int q
end
/-! ### comparisons -/
/-- the scalars that == tells apart as data does -/
def scal : V → V → Bool
  | .non, .non => true | .non, .int _ => true | .int _, .non => true | .non, .bl _ => true | .bl _, .non => true | .non, .str _ => true | .str _, .non => true
  | .int _, .int _ => true | .bl _, .bl _ => true | .str _, .str _ => true | .byt _, .byt _ => true
  | .int _, .str _ => true | .str _, .int _ => true | .bl _, .str _ => true | .str _, .bl _ => true
  | _, _ => false
def rEq : R2 := fun x y H Q => scal x y = true ∧ Q (.bl (decide (x = y))) H
def rNe : R2 := fun x y H Q => scal x y = true ∧ Q (.bl (!decide (x = y))) H
theorem dec_int {i j : Int} : decide (V.int i = V.int j) = (i == j) := by
  rw [Bool.eq_iff_iff]
  simp
theorem dec_bl {i j : Bool} : decide (V.bl i = V.bl j) = (i == j) := by
  rw [Bool.eq_iff_iff]
  simp
theorem dec_str {i j : Str} : decide (V.str i = V.str j) = (i == j) := by
  rw [Bool.eq_iff_iff]
  simp
theorem dec_byt {i j : Array UInt8} : decide (V.byt i = V.byt j) = (i.toList == j.toList) := by
  rw [Bool.eq_iff_iff]
  cases i
  cases j
  simp
section
variable {X : Cx} {a b c : Expr} {ta tb tc : TE} {pos : Pos}
theorem fin_bl {pins : List (Addr × Obj)} {σ : St} {H : Hp} {s : Shared} {Q : VK} {k k' : Bool} (I : Inv X pins σ H s) (q : Q (.bl k) H) (e : k = k') : EP X pins σ Q (.bool k') s := by
  subst e
  exact ⟨.bl k, H, I, rfl, q⟩
theorem op_eq : OpR X (compareOp .Eq) rEq := by
  intro pins s σ H x y v u Q I rx ry h
  obtain ⟨hs, q⟩ := h
  cases x with
  | non =>
    cases rx
    cases y with
    | non => cases ry; exact PySem.EqNone.eq_none_none (fin_bl I q (by simp))
    | bl j => cases ry; exact PySem.EqNone.eq_none_bool (fin_bl I q (by simp))
    | int j => obtain ⟨t', rfl⟩ := ry; exact PySem.EqNone.eq_none_int (fin_bl I q (by simp))
    | str j => obtain ⟨t', rfl⟩ := ry; exact PySem.EqNone.eq_none_str (fin_bl I q (by simp))
    | _ => exact absurd (show false = true from hs) Bool.false_ne_true
  | bl i =>
    cases rx
    cases y with
    | non => cases ry; exact PySem.EqNone.eq_bool_none (fin_bl I q (by simp))
    | bl j => cases ry; exact eq_bool (fin_bl I q dec_bl)
    | str j => obtain ⟨t', rfl⟩ := ry; exact PySem.EqMixed.eq_bool_str (fin_bl I q (by simp))
    | _ => exact absurd (show false = true from hs) Bool.false_ne_true
  | int i =>
    obtain ⟨t, rfl⟩ := rx
    cases y with
    | non => cases ry; exact PySem.EqNone.eq_int_none (fin_bl I q (by simp))
    | int j => obtain ⟨t', rfl⟩ := ry; exact eq_int (fin_bl I q dec_int)
    | str j => obtain ⟨t', rfl⟩ := ry; exact PySem.EqMixed.eq_int_str (fin_bl I q (by simp))
    | _ => exact absurd (show false = true from hs) Bool.false_ne_true
  | str i =>
    obtain ⟨t, rfl⟩ := rx
    cases y with
    | non => cases ry; exact PySem.EqNone.eq_str_none (fin_bl I q (by simp))
    | bl j => cases ry; exact PySem.EqMixed.eq_str_bool (fin_bl I q (by simp))
    | int j => obtain ⟨t', rfl⟩ := ry; exact PySem.EqMixed.eq_str_int (fin_bl I q (by simp))
    | str j => obtain ⟨t', rfl⟩ := ry; exact eq_str (fin_bl I q dec_str)
    | _ => exact absurd (show false = true from hs) Bool.false_ne_true
  | byt i =>
    obtain ⟨t, rfl⟩ := rx
    cases y with
    | byt j => obtain ⟨t', rfl⟩ := ry; exact PySem.W.eq_bytes (fin_bl I q dec_byt)
    | _ => exact absurd (show false = true from hs) Bool.false_ne_true
  | _ => cases y <;> exact absurd (show false = true from hs) Bool.false_ne_true
theorem op_ne : OpR X (compareOp .NotEq) rNe := by
  intro pins s σ H x y v u Q I rx ry h
  obtain ⟨hs, q⟩ := h
  cases x with
  | non =>
    cases rx
    cases y with
    | non => cases ry; exact PySem.EqNone.ne_none_none (fin_bl I q (by simp))
    | bl j => cases ry; exact PySem.EqNone.ne_none_bool (fin_bl I q (by simp))
    | int j => obtain ⟨t', rfl⟩ := ry; exact PySem.EqNone.ne_none_int (fin_bl I q (by simp))
    | str j => obtain ⟨t', rfl⟩ := ry; exact PySem.EqNone.ne_none_str (fin_bl I q (by simp))
    | _ => exact absurd (show false = true from hs) Bool.false_ne_true
  | bl i =>
    cases rx
    cases y with
    | non => cases ry; exact PySem.EqNone.ne_bool_none (fin_bl I q (by simp))
    | bl j => cases ry; exact ne_bool (fin_bl I q (congrArg not dec_bl))
    | str j => obtain ⟨t', rfl⟩ := ry; exact PySem.EqMixed.ne_bool_str (fin_bl I q (by simp))
    | _ => exact absurd (show false = true from hs) Bool.false_ne_true
  | int i =>
    obtain ⟨t, rfl⟩ := rx
    cases y with
    | non => cases ry; exact PySem.EqNone.ne_int_none (fin_bl I q (by simp))
    | int j => obtain ⟨t', rfl⟩ := ry; exact ne_int (fin_bl I q (congrArg not dec_int))
    | str j => obtain ⟨t', rfl⟩ := ry; exact PySem.EqMixed.ne_int_str (fin_bl I q (by simp))
    | _ => exact absurd (show false = true from hs) Bool.false_ne_true
  | str i =>
    obtain ⟨t, rfl⟩ := rx
    cases y with
    | non => cases ry; exact PySem.EqNone.ne_str_none (fin_bl I q (by simp))
    | bl j => cases ry; exact PySem.EqMixed.ne_str_bool (fin_bl I q (by simp))
    | int j => obtain ⟨t', rfl⟩ := ry; exact PySem.EqMixed.ne_str_int (fin_bl I q (by simp))
    | str j => obtain ⟨t', rfl⟩ := ry; exact ne_str (fin_bl I q (congrArg not dec_str))
    | _ => exact absurd (show false = true from hs) Bool.false_ne_true
  | byt i =>
    obtain ⟨t, rfl⟩ := rx
    cases y with
    | byt j => obtain ⟨t', rfl⟩ := ry; exact PySem.W.ne_bytes (fin_bl I q (congrArg not dec_byt))
    | _ => exact absurd (show false = true from hs) Bool.false_ne_true
  | _ => cases y <;> exact absurd (show false = true from hs) Bool.false_ne_true
theorem op_le : OpR X (compareOp .LtE) (rI0 fun i j => .bl (decide (i ≤ j))) := opB0 fun _ _ _ _ _ _ _ q => le_int q
theorem op_gt : OpR X (compareOp .Gt) (rI0 fun i j => .bl (decide (j < i))) := opB0 fun _ _ _ _ _ _ _ q => gt_int q
theorem op_ge : OpR X (compareOp .GtE) (rI0 fun i j => .bl (decide (j ≤ i))) := opB0 fun _ _ _ _ _ _ _ q => ge_int q
theorem nomark (b : Expr) {op : CmpOp} (h : op ≠ .In := by decide) (h2 : op ≠ .NotIn := by decide) : behindInMarks op b = false := by
  have e1 : (op == CmpOp.In) = false := by cases op <;> first | rfl | exact absurd rfl h
  have e2 : (op == CmpOp.NotIn) = false := by cases op <;> first | rfl | exact absurd rfl h2
  cases b <;> simp [behindInMarks, e1, e2]
/-- a comparison as a value; hm: nomark b, or (for in, not in) by with_unfolding_all rfl -/
theorem pe_cmpR {op : CmpOp} {r : R2} (ho : OpR X (compareOp op) r) (ha : PE X a ta) (hb : PE X b tb) (hm : behindInMarks op b = false) : PE X (.Compare a [op] [b] pos) (tOp r ta tb) := by
  intro pins s σ H Q I h
  exact wpAny_Compare1 (binT ha hb I h fun v u s2 x y H2 I2 rx ry q => ho pins s2 σ H2 x y v u Q I2 rx ry q) hm
/-- a reading of a value as a test -/
def tTest (t : TE) : TT := fun σ H Q => t σ H fun x H' => ∃ k, x = .bl k ∧ Q k H'
theorem pt_cmpR {op : CmpOp} {r : R2} (ho : OpR X (compareOp op) r) (ha : PE X a ta) (hb : PE X b tb) (hm : behindInMarks op b = false) : PT X (.Compare a [op] [b] pos) (tTest (tOp r ta tb)) := by
  intro pins s σ H Q I h
  refine wpAny_isTrue_Compare1 (thn (ha pins s σ H _ I h) fun v s1 ⟨x, H1, I1, r1, q1⟩ => thn (hb pins s1 σ H1 _ I1 q1) fun u s2 ⟨y, H2, I2, r2, q2⟩ =>
    thn (ho pins s2 σ H2 x y v u _ I2 r1 r2 q2) fun c s3 ⟨z, H3, I3, r3, k, e, q3⟩ => ?_) hm
  subst e
  cases r3
  exact wpAny_truthy_bool ⟨H3, I3, q3⟩
theorem line63 : (sizeLine : Nat) < 2 ^ 63 := by rw [sizeLine_eq]; decide
/-! ### scalar builtins, by CallR -/
theorem vals1 {x : V} {us : List Value} (r : Vals [x] us) : ∃ u, us = [u] ∧ RelV x u := by
  cases r with
  | cons r1 r2 => cases r2; exact ⟨_, rfl, r1⟩
theorem vals2 {x y : V} {us : List Value} (r : Vals [x, y] us) : ∃ u w', us = [u, w'] ∧ RelV x u ∧ RelV y w' := by
  cases r with
  | cons r1 r2 =>
    cases r2 with
    | cons r3 r4 => cases r4; exact ⟨_, _, rfl, r1, r3⟩
theorem call_abs : CallR X (.builtin "abs") (fun xs H Q => ∃ i, xs = [.int i] ∧ Q (.int (if i < 0 then -i else i)) H) := by
  intro pins s σ H xs us Q I r h
  obtain ⟨i, rfl, q⟩ := h
  obtain ⟨u, rfl, t, rfl⟩ := vals1 r
  exact call_abs_int fun u tk => ⟨.int (if i < 0 then -i else i), H, I.tok _, ⟨_, rfl⟩, q⟩
theorem call_max2 (hc : X.calm = true) : CallR X (.builtin "max") (fun xs H Q => ∃ i j, xs = [.int i, .int j] ∧ Q (.int (if j > i then j else i)) H) := by
  intro pins s σ H xs us Q I r h
  obtain ⟨i, j, rfl, q⟩ := h
  obtain ⟨u, w', rfl, ⟨t, rfl⟩, ⟨t', rfl⟩⟩ := vals2 r
  refine max_two_ints (I.ok.hd hc) fun h' tk k => ⟨_, H, I.kept k, ?_, q⟩
  by_cases hj : j > i
  · rw [if_pos hj, if_pos hj]; exact ⟨_, rfl⟩
  · rw [if_neg hj, if_neg hj]; exact ⟨_, rfl⟩
theorem call_min2 (hc : X.calm = true) : CallR X (.builtin "min") (fun xs H Q => ∃ i j, xs = [.int i, .int j] ∧ Q (.int (if j < i then j else i)) H) := by
  intro pins s σ H xs us Q I r h
  obtain ⟨i, j, rfl, q⟩ := h
  obtain ⟨u, w', rfl, ⟨t, rfl⟩, ⟨t', rfl⟩⟩ := vals2 r
  refine min_two_ints (I.ok.hd hc) fun h' tk k => ⟨_, H, I.kept k, ?_, q⟩
  by_cases hj : j < i
  · rw [if_pos hj, if_pos hj]; exact ⟨_, rfl⟩
  · rw [if_neg hj, if_neg hj]; exact ⟨_, rfl⟩
theorem call_int1 : CallR X (.type "int") (fun xs H Q => (∃ i, xs = [.int i] ∧ Q (.int i) H) ∨ ∃ k, xs = [.bl k] ∧ Q (.int (if k then 1 else 0)) H) := by
  intro pins s σ H xs us Q I r h
  rcases h with ⟨i, rfl, q⟩ | ⟨k, rfl, q⟩
  · obtain ⟨u, rfl, t, rfl⟩ := vals1 r
    exact call_int_int ⟨.int i, H, I, ⟨_, rfl⟩, q⟩
  · obtain ⟨u, rfl, r1⟩ := vals1 r
    cases r1
    exact call_int_bool ⟨.int (if k then 1 else 0), H, I.tok _, ⟨_, rfl⟩, q⟩
/-- len of a str, a bytes, a list, a tuple -/
def LenV (K : PySem.W.Frag) (x : V) (H : Hp) (n : Nat) : Prop :=
  match x with
  | .str y => y.length ≤ sizeLine ∧ n = y.length
  | .byt y => y.size ≤ sizeLine ∧ n = y.size
  | .ref p => (∃ xs, SqL K H p xs ∧ n = xs.length) ∨ ∃ xs, SqT K H p xs ∧ n = xs.length
  | _ => False
theorem call_len : CallR X (.builtin "len") (fun xs H Q => ∃ x n, xs = [x] ∧ LenV X.K x H n ∧ Q (.int n) H) := by
  intro pins s σ H xs us Q I r h
  obtain ⟨x, n, rfl, e, q⟩ := h
  obtain ⟨u, rfl, rx⟩ := vals1 r
  have hl := line63
  have hs : sizeLine = 16777216 := sizeLine_eq
  cases x with
  | str y =>
    obtain ⟨t, rfl⟩ := rx
    obtain ⟨hy, e'⟩ : y.length ≤ sizeLine ∧ n = y.length := e
    subst e'
    exact len_str (by (first | lia | omega)) ⟨.int _, H, I.tok _, ⟨_, rfl⟩, q⟩
  | byt y =>
    obtain ⟨t, rfl⟩ := rx
    obtain ⟨hy, e'⟩ : y.size ≤ sizeLine ∧ n = y.size := e
    subst e'
    exact PySem.W.len_bytes (by (first | lia | omega)) ⟨.int _, H, I.tok _, ⟨_, rfl⟩, q⟩
  | ref p =>
    cases rx
    have e' : (∃ xs, SqL X.K H p xs ∧ n = xs.length) ∨ ∃ xs, SqT X.K H p xs ∧ n = xs.length := e
    rcases e' with ⟨xs, hx, e'⟩ | ⟨xs, hx, e'⟩
    · subst e'
      obtain ⟨its, r', pl, hz⟩ := I.list hx
      have hlen := r'.length
      exact Calls.call_len_list pl.isList (by simp only [List.size_toArray]; (first | lia | omega)) ⟨.int xs.length, H, I.tok _, ⟨_, by simp only [List.size_toArray]; rw [hlen]⟩, q⟩
    · subst e'
      obtain ⟨its, r', pl, hz⟩ := I.tuple hx
      have hlen := r'.length
      exact len_tuple pl (by simp only [List.size_toArray]; (first | lia | omega)) ⟨.int xs.length, H, I.tok _, ⟨_, by simp only [List.size_toArray]; rw [hlen]⟩, q⟩
  | _ => exact (show False from e).elim
end
end L2
namespace L2
open PySem PySem.Spec PyProof.Rows
section
variable {prog : Program} {w : World} {A : Around} {E : Value → Shared → Prop} {s : Shared} {K : PySem.W.Frag} {x dx C f : Addr} {mA : Str → Option Value} {name : Str} {v : Value}
end
theorem RelO.some_of {v : V} {o : Option Value} (r : RelO (some v) o) : ∃ u, o = some u ∧ RelV v u := by
  cases o with
  | none => exact (show False from r).elim
  | some u => exact ⟨u, rfl, r⟩
section
variable {P : Program} {w : World} {H H' : Hp} {h h' : Heap} {a C dx : Addr} {fs fs' : List (Str × V)}
end
section
variable {X : Cx} {pins : List (Addr × Obj)} {σ : St} {H : Hp} {s : Shared} {a C dx : Addr} {fs : List (Str × V)} {f : Str} {v : V} {A : Around} {E : Value → Shared → Prop}
end
section
variable {X : Cx} {o e value : Expr} {f : Str} {pos pos' tpos : Pos} {ta tv : TE}
end
/-! ### isinstance -/
section
variable {X : Cx} {pins : List (Addr × Obj)} {σ : St} {H : Hp} {s : Shared} {A : Around} {E : Value → Shared → Prop} {Q : Value → Shared → Prop} {c : Value} {b : Bool}
end
end L2
namespace L2
open PySem PySem.Spec PyProof.Rows
/-! ### room -/
structure Room (k : Nat) (A : Around) : Prop where
  hd : A.handled = none
  dp : A.depth + 3 * k + 5 < recursionLimit
  un : A.units + 16 * k + 200 < cLine
  gd : A.guards = some []
theorem Room.mono {j k : Nat} {A : Around} (r : Room k A) (h : j ≤ k) : Room j A := ⟨r.hd, by have := r.dp; (first | lia | omega), by have := r.un; (first | lia | omega), r.gd⟩
theorem Room.deeper {k : Nat} {A : Around} (r : Room (k + 1) A) (env : Env) : Room k (A.deeper env) :=
  ⟨r.hd, by have := r.dp; show A.depth + 1 + 3 * k + 5 < _; (first | lia | omega), by have := r.un; show A.units + 3 + 16 * k + 200 < _; (first | lia | omega), r.gd⟩
theorem Room.depth {k : Nat} {A : Around} (r : Room k A) : A.depth < recursionLimit := by have := r.dp; (first | lia | omega)
theorem Room.units {k : Nat} {A : Around} (r : Room k A) : A.units + 64 < cLine := by have := r.un; (first | lia | omega)
/-! ### argument lists and displays -/
def tNil : TA := fun _ H Q => Q [] H
def tCons (ta : TE) (tr : TA) : TA := fun σ H Q => ta σ H fun x H1 => tr σ H1 fun xs H2 => Q (x :: xs) H2
section
variable {X : Cx} {e : Expr} {es : List Expr} {te : TE} {t : TA} {pos : Pos}
theorem pa_nil : PA X [] tNil := fun _ _ _ _ H Q I h => Calls.spliced_nil ⟨[], H, I, .nil, h⟩
theorem pa_cons (ha : PE X e te) (hr : PA X es t) (hs : starEach (e :: es) X.env = (false, eval e X.env) :: starEach es X.env := by rfl) : PA X (e :: es) (tCons te t) := by
  intro pos pins s σ H Q I h
  rw [hs]
  show wpAny _ _ (spliced ((false, eval e X.env) :: backTo pos (starEach es X.env))) _ _ s
  refine Calls.spliced_cons (thn (ha pins s σ H _ I h) fun u s1 ⟨x, H1, I1, r1, q1⟩ => ?_)
  exact thn (hr pos pins s1 σ H1 _ I1 q1) fun us s2 ⟨xs, H2, I2, r2, q2⟩ => ⟨x :: xs, H2, I2, .cons r1 r2, q2⟩
/-- a tuple, a list of written items -/
def tTup (t : TA) : TE := fun σ H Q => t σ H fun xs H1 => xs.length ≤ sizeLine ∧ ∀ p, H1 p = none → Q (.ref p) (upd H1 p (.tup xs))
def tLst (t : TA) : TE := fun σ H Q => t σ H fun xs H1 => xs.length ≤ sizeLine ∧ ∀ p, H1 p = none → Q (.ref p) (upd H1 p (.lst xs))
theorem pe_tup {x1} (h : PA X es t) : PE X (.Tuple es x1 pos) (tTup t) := by
  intro pins s σ H Q I hq
  refine wpAny_Tuple_spliced (thn (h pos pins s σ H _ I hq) fun us s1 ⟨xs, H1, I1, r, z, q⟩ => ⟨by rw [← r.length]; exact z, ?_⟩)
  have hf : H1 s1.heap.objs.size = none := I1.hok.fresh (Nat.le_refl _)
  refine ⟨.ref s1.heap.objs.size, upd H1 s1.heap.objs.size (.tup xs), I1.laid (t' := s1.toks) (fun b u e => Heap.get?_push_of_some _ e) (Nat.le_refl _) ?_, rfl, q _ hf⟩
  exact ⟨⟨z, _, Heap.get?_push_size _ rfl, rfl⟩, us, r, ⟨_, Heap.get?_push_size _ rfl, rfl, _, rfl⟩⟩
theorem pe_lst (h : PA X es t) : PE X (.List es pos) (tLst t) := by
  intro pins s σ H Q I hq
  refine wpAny_List_spliced (thn (h pos pins s σ H _ I hq) fun us s1 ⟨xs, H1, I1, r, z, q⟩ => ⟨by rw [← r.length]; exact z, ?_⟩)
  have hf : H1 s1.heap.objs.size = none := I1.hok.fresh (Nat.le_refl _)
  refine ⟨.ref s1.heap.objs.size, upd H1 s1.heap.objs.size (.lst xs), I1.laid (t' := s1.toks) (fun b u e => Heap.get?_push_of_some _ e) (Nat.le_refl _) ?_, rfl, q _ hf⟩
  exact ⟨z, us, 0, r, Heap.get?_push_size _ rfl⟩
end
/-! ### what a def promises -/
/-- a def's promise: the bound arguments in the parameters' order, the heap, the wanted end, the wanted exception -/
abbrev Sp := List V → Hp → VK → XK → Prop
/-- how an exception lies behind a call (file 08 gives it): the callers' frames, abstract heap and state ahead of the call, the wish, the exception, the state -/
abbrev CXT := List Env → Hp → Shared → XK → Value → Shared → Prop
/-- the state at a call -/
structure Env0 (P : Program) (w : World) (K : PySem.W.Frag) (mg : Str → Option Value) (base : Heap) (A : Around) (outer : List Env) (s : Shared) (H : Hp) : Prop where
  frames : A.frames = some outer
  mod : Mod K mg base
  bs : ∀ b o, base.get? b = some o → s.heap.get? b = some o ∧ H b = none
  bsz : base.objs.size ≤ s.heap.objs.size
  funs : s.heap.FunFrames base outer
  frf : ∀ b ∈ frs outer, H b = none
  hok : HOk P w H s.heap
  bare : AllBare s.gens
/-- a call's end -/
def CE (outer : List Env) (P : Program) (w : World) (H : Hp) (s : Shared) (Q : VK) (u : Value) (s' : Shared) : Prop :=
  ∃ v H', s'.os = s.os ∧ AllBare s'.gens ∧ Un (frs outer) [] H H' s.heap s'.heap ∧ HOk P w H' s'.heap ∧ RelV v u ∧ Q v H'
def CR (CX : CXT) (outer : List Env) (P : Program) (w : World) (H : Hp) (s : Shared) (Q : VK) (E : XK) (r : Result) (s' : Shared) : Prop :=
  match r with
  | .ok (.ret u) => CE outer P w H s Q u s'
  | .ok _ => False
  | .error e => CX outer H s E e s'
structure FnOk (P : Program) (w : World) (K : PySem.W.Frag) (mg : Str → Option Value) (base : Heap) (CX : CXT) (k : Nat) (f : Addr) (fd : FuncData) (ps : List Str) (sp : Sp) : Prop where
  len : ∀ vs H Q E, sp vs H Q E → vs.length = ps.length
  run : ∀ (A : Around) (outer : List Env) (s : Shared) (H : Hp) (args : Args) (us : List Value) (vs : List V) (Q : VK) (E : XK), Room k A → Env0 P w K mg base A outer s H → BindsTo s fd args (ps.zip us) → Vals vs us → sp vs H Q E →
    codeAny (model P w) A (.call (.ref f) args) (CR CX outer P w H s Q E) s
section
variable {X : Cx} {pins : List (Addr × Obj)} {σ : St} {H : Hp} {s s' : Shared}
/-- from a body: what a callee wants -/
theorem Inv.env0 (I : Inv X pins σ H s) : Env0 X.prog X.w X.K X.mg X.base X.A X.stack s H :=
  ⟨I.ok.frames, I.ok.mod, I.bs, Nat.le_trans I.ok.bsz I.sz, I.stack, I.stkFree, I.hok, I.bare⟩
/-- behind a call -/
theorem Inv.after {Q : VK} {u : Value} (I : Inv X pins σ H s) (h : CE X.stack X.prog X.w H s Q u s') : EP X pins σ Q u s' := by
  obtain ⟨v, H', os, bare, un, hok, r, q⟩ := h
  obtain ⟨hh, g, d, t, os'⟩ := s'
  obtain rfl : os' = s.os := os
  exact ⟨v, H', I.call (h' := hh) (g' := g) (d' := d) (t' := t) (ch := []) un hok bare (fun b z => absurd z (by simp)), r, q⟩
end
/-! ### calls -/
/-- f(..): the written arguments, then the defaults dvs; E: what is wanted of an exception -/
def tCall (sp : Sp) (dvs : List V) (E : XK) (t : TA) : TE := fun σ H Q => t σ H fun vs H1 => sp (vs ++ dvs) H1 Q E
/-- how the parameters are bound: us the positional arguments, kw the keywords' values by name, ds the defaults that fill up -/
def Binds (K : PySem.W.Frag) (fd : FuncData) (ps : List Str) (ds : List Value) : Prop :=
  ∀ (s : Shared) (us : List Value), K.In s.heap → (us ++ ds).length = ps.length → BindsTo s fd ⟨us, []⟩ (ps.zip (us ++ ds))
/-- every parameter is given -/
theorem Binds.all {K : PySem.W.Frag} {fd : FuncData} {ps : List Str} (h : ∀ us : List Value, us.length = ps.length → bindArgs fd ⟨us, []⟩ = pure (ps.zip us)) : Binds K fd ps [] := fun s us _ hl => by
  rw [List.append_nil] at hl ⊢
  exact .of_eq (h us hl)
/-- an exception of a callee reaches what this body wants of exceptions -/
def Passes (CX : CXT) (X : Cx) (E : XK) : Prop := ∀ (pins : List (Addr × Obj)) (σ : St) (H : Hp) (s : Shared) (e : Value) (s' : Shared), Inv X pins σ H s → CX X.stack H s E e s' → X.xe e s'
section
variable {X : Cx} {CX : CXT} {k : Nat} {f C : Addr} {fd : FuncData} {ps : List Str} {sp : Sp} {dvs : List V} {ds : List Value} {E : XK} {x m : Str} {p pos apos : Pos} {e o : Expr} {es : List Expr} {ta : TE} {t : TA}
/-- the callee runs -/
theorem run_fn {pins : List (Addr × Obj)} {σ : St} {H : Hp} {s : Shared} {Q : VK} {us : List Value} {vs : List V} (F : FnOk X.prog X.w X.K X.mg X.base CX k f fd ps sp) (hr : Room k X.A) (hb : Binds X.K fd ps ds) (hd : Vals dvs ds) (hx : Passes CX X E)
    (I : Inv X pins σ H s) (r : Vals vs us) (h : sp (vs ++ dvs) H Q E) : wpAny (model X.prog X.w) X.A (call (.ref f) us) (EP X pins σ Q) X.xe s := by
  have r2 : Vals (vs ++ dvs) (us ++ ds) := r.append hd
  have hl : (us ++ ds).length = ps.length := by rw [← r2.length]; exact F.len _ _ _ _ h
  refine wpAny_call (codeAny_mono (F.run X.A X.stack s H ⟨us, []⟩ (us ++ ds) (vs ++ dvs) Q E hr I.env0 (hb s us I.kIn hl) r2 h) fun r s' hq => ?_)
  cases r with
  | error e => exact hx pins σ H s e s' I hq
  | ok fl =>
    cases fl with
    | ret u => exact I.after hq
    | next => exact False.elim hq
    | brk => exact False.elim hq
    | cont => exact False.elim hq
theorem pe_call (F : FnOk X.prog X.w X.K X.mg X.base CX k f fd ps sp) (hr : Room k X.A) (hg : Gl X x) (hm : X.mg x = some (.ref f)) (hk : PySem.W.keepIn X.K (.ref f) = true) (hb : Binds X.K fd ps ds) (hd : Vals dvs ds) (hx : Passes CX X E)
    (ha : PA X (e :: es) t) (hdb : (x == ("__debug__" : Str)) = false := by decide) (he : starEach (e :: es) X.env = (false, eval e X.env) :: starEach es X.env := by rfl) (hpl : (backTo pos (starEach es X.env)).any (·.1) = false := by rfl) :
    PE X (.Call (.Name x p) (e :: es) [] pos) (tCall sp dvs E t) := by
  intro pins s σ H Q I h
  refine wpAny_Call_Name_kw (ld_glob I hg hm ?_ hdb)
  refine PySem.W.callWith_K (h₀ := X.base) I.ok.mod.kin hk (thn (ha pos pins s σ H _ I h) fun us s1 ⟨vs, H1, I1, r, q⟩ => ⟨I1.kIn, ?_⟩) he hpl
  exact run_fn F hr hb hd hx I1 r q
end
section
variable {X : Cx} {CX : CXT} {k : Nat} {f C : Addr} {fd : FuncData} {ps ks : List Str} {sp : Sp} {E : XK} {x m : Str} {p pos apos kpos : Pos} {e o : Expr} {es : List Expr} {kws : List Keyword} {te ta : TE} {t tk : TA} {nm : Option Str}
variable {g : List Value → List Value → List Value} {gV : List V → List V → List V}
end
/-! ### a def's body keeps its promise -/
/-- names: the parameters first -/
structure FnScope (N P : List Str) (sc : Scope) : Prop where
  kind : sc.kind = .function
  co : sc.isCoroutine = false
  gen : sc.isGenerator = false
  nd : N.Nodup
  pre : N.take P.length = P
  par : ∀ x ∈ P, sc.names.lookup x = some .local ∨ sc.names.lookup x = some .cell
  nofree : ∀ y ∈ sc.names, y.2 ≠ .free
theorem bindL_out {kindOf : Str → Option NameKind} {x : Str} : ∀ {binds : List (Str × Value)} {m : Str → Option Value}, (∀ v, (x, v) ∉ binds) → bindL kindOf binds m x = m x
  | [], _, _ => rfl
  | (n, v) :: r, m, h => by
    unfold bindL
    rw [bindL_out fun w hw => h w (List.mem_cons_of_mem _ hw)]
    split
    · have : x ≠ n := by rintro rfl; exact h v List.mem_cons_self
      simp [this]
    · rfl
theorem bindC_out {kindOf : Str → Option NameKind} {x : Str} : ∀ {binds : List (Str × Value)} {m : Str → Option Value}, (∀ v, (x, v) ∉ binds) → bindC kindOf binds m x = m x
  | [], _, _ => rfl
  | (n, v) :: r, m, h => by
    unfold bindC
    rw [bindC_out fun w hw => h w (List.mem_cons_of_mem _ hw)]
    split
    · rfl
    · have : x ≠ n := by rintro rfl; exact h v List.mem_cons_self
      simp [this]
theorem bindL_get {kindOf : Str → Option NameKind} {x : Str} {v : Value} : ∀ {P : List Str} {vs : List Value} {i : Nat} {m : Str → Option Value}, P.Nodup → P[i]? = some x → vs[i]? = some v → kindOf x = some .local →
    bindL kindOf (P.zip vs) m x = some v
  | [], _, _, _, _, h, _, _ => by simp at h
  | _ :: _, [], _, _, _, _, h, _ => by simp at h
  | p :: P, w :: vs, 0, m, nd, h1, h2, hk => by
    simp at h1 h2; subst h1; subst h2
    show bindL kindOf ((p, w) :: P.zip vs) m p = _
    unfold bindL
    rw [bindL_out fun v hv => (List.nodup_cons.mp nd).1 (List.of_mem_zip hv).1, if_pos hk]
    simp
  | p :: P, w :: vs, i + 1, m, nd, h1, h2, hk => by
    show bindL kindOf ((p, w) :: P.zip vs) m x = _
    unfold bindL
    exact bindL_get (i := i) (List.nodup_cons.mp nd).2 (by simpa using h1) (by simpa using h2) hk
theorem bindC_get {kindOf : Str → Option NameKind} {x : Str} {v : Value} : ∀ {P : List Str} {vs : List Value} {i : Nat} {m : Str → Option Value}, P.Nodup → P[i]? = some x → vs[i]? = some v → kindOf x ≠ some .local →
    bindC kindOf (P.zip vs) m x = some v
  | [], _, _, _, _, h, _, _ => by simp at h
  | _ :: _, [], _, _, _, _, h, _ => by simp at h
  | p :: P, w :: vs, 0, m, nd, h1, h2, hk => by
    simp at h1 h2; subst h1; subst h2
    show bindC kindOf ((p, w) :: P.zip vs) m p = _
    unfold bindC
    rw [bindC_out fun v hv => (List.nodup_cons.mp nd).1 (List.of_mem_zip hv).1, if_neg hk]
    simp
  | p :: P, w :: vs, i + 1, m, nd, h1, h2, hk => by
    show bindC kindOf ((p, w) :: P.zip vs) m x = _
    unfold bindC
    exact bindC_get (i := i) (List.nodup_cons.mp nd).2 (by simpa using h1) (by simpa using h2) hk
/-- the names' values at the entry -/
def start (N : List Str) (vs : List V) : St := vs.map some ++ List.replicate (N.length - vs.length) none
/-- the context of a def's body, at its entry; an exception leaves the frame, then lies as CX says -/
def cxOf (CX : CXT) (P : Program) (w : World) (K : PySem.W.Frag) (mg : Str → Option Value) (base : Heap) (N : List Str) (qual : Str) (scope : Scope) (f : Addr) (cd : Value) (A : Around) (outer : List Env) (s : Shared) (H : Hp) (E : XK) : Cx where
  prog := P
  w := w
  K := K
  mg := mg
  base := base
  A := A.deeper (envOfC qual scope s.heap.objs.size f cd)
  N := N
  s₀ := s
  H₀ := H
  env := envOfC qual scope s.heap.objs.size f cd
  outer := outer
  stack := envOfC qual scope s.heap.objs.size f cd :: outer
  ex := []
  calm := true
  fn := fun _ => true
  pn := []
  xe := fun e s' => wpAny (model P w) (A.deeper (envOfC qual scope s.heap.objs.size f cd)) (leaving (envOfC qual scope s.heap.objs.size f cd) e) (fun _ s'' => CX outer H s E e s'') (fun e' s'' => CX outer H s E e' s'') s'
theorem cell_has {sc : Scope} {n : Nat} {x : Str} (h : sc.names.lookup x = some .cell) : ∃ c, (cellsFrom n sc.names []).lookup x = some c := by
  have q := PySem.W.cellsFrom_some sc.names n [] (.inl h)
  exact Option.isSome_iff_exists.mp q
theorem inv_start {CX : CXT} {P : Program} {w : World} {K : PySem.W.Frag} {mg : Str → Option Value} {base : Heap} {N ps : List Str} {qual : Str} {scope : Scope} {f : Addr} {cd : Value} {A : Around} {outer : List Env} {s s1 : Shared} {H : Hp} {E : XK} {us : List Value} {vs : List V}
    (S : FnScope N ps scope) (hd : A.handled = none) (e0 : Env0 P w K mg base A outer s H) (hl : vs.length = ps.length) (r : Vals vs us)
    (x : InCallC s s.heap.objs.size (bindL (envOfC qual scope s.heap.objs.size f cd).kindOf (ps.zip us) fun _ => none) (cellsFrom (s.heap.objs.size + 1) scope.names []) (bindC (envOfC qual scope s.heap.objs.size f cd).kindOf (ps.zip us) fun _ => none) s1) :
    Inv (cxOf CX P w K mg base N qual scope f cd A outer s H E) [] (start N vs) H s1 := by
  have hpl : ps.length ≤ N.length := by have := congrArg List.length S.pre; rw [List.length_take] at this; (first | lia | omega)
  obtain ⟨h1, tk, rfl, hk⟩ := x.done
  have noA : ∀ b : Addr, b ∉ (cxOf CX P w K mg base N qual scope f cd A outer s H E).ex := fun b z => absurd (show b ∈ ([] : List Addr) from z) (by simp)
  refine ⟨⟨e0.mod, S.kind, rfl, rfl, Nat.le_refl _, fun y z c h1 h2 => ?_, fun y hy => ?_, fun y c _ h => ?_, fun _ => hd, Around.frames_deeper e0.frames, .inr ⟨rfl, rfl⟩, fun b z => absurd z (noA b), e0.bs, e0.bsz, fun b _ _ => noA b, fun b z => absurd z (noA b), e0.funs, e0.frf⟩,
    rfl, e0.bare, Un.kept hk, ⟨_, x.toInCall.ns, fun i y v h1 h2 h3 => ?_⟩, fun y c h => ⟨_, x.cell y c h⟩, e0.hok.fresh (Nat.le_refl _), fun y c h => ?_, fun p hp => absurd (show p ∈ ([] : List (Addr × Obj)) from hp) (by simp), e0.hok.kept hk, ?_⟩
  · exact name_of_addr x.apart (PySem.mem_of_lookup h1) (PySem.mem_of_lookup h2)
  · have hy : scope.names.lookup y = some .cell ∨ scope.names.lookup y = some .free := hy
    rcases hy with hy | hy
    · exact cell_has hy
    · exact absurd rfl (S.nofree _ (PySem.mem_of_lookup hy))
  · exact Nat.le_of_lt (x.above y c (PySem.mem_of_lookup h))
  · have hi : i < vs.length := by
      unfold start at h2
      by_cases hi : i < vs.length
      · exact hi
      · rw [List.getElem?_append_right (by simpa using hi)] at h2
        rw [List.getElem?_replicate] at h2
        split at h2 <;> cases h2
    have ha : vs[i]? = some v := by
      unfold start at h2
      rw [List.getElem?_append_left (by simpa using hi), List.getElem?_map] at h2
      cases e : vs[i]? with
      | none => rw [e] at h2; cases h2
      | some a => rw [e] at h2; cases h2; rfl
    obtain ⟨u, hu, rv⟩ := r.get ha
    have hp : ps[i]? = some y := by
      rw [← S.pre, List.getElem?_take_of_lt (by (first | lia | omega))]; exact h1
    have ndP : ps.Nodup := by rw [← S.pre]; exact S.nd.sublist (List.take_sublist _ _)
    refine ⟨u, rv, ?_⟩
    rcases S.par y (List.mem_of_getElem? hp) with k | k
    · exact .inl ⟨k, bindL_get ndP hp hu k⟩
    · obtain ⟨c, e⟩ := cell_has (n := s.heap.objs.size + 1) k
      refine .inr ⟨.inl k, c, e, ?_⟩
      have q := x.cell y c e
      rw [bindC_get ndP hp hu (by show scope.names.lookup y ≠ _; rw [k]; decide)] at q
      exact q
  · exact e0.hok.fresh (Nat.le_of_lt (x.above y c (PySem.mem_of_lookup h)))
  · unfold start
    show _ = N.length
    rw [List.length_append, List.length_map, List.length_replicate]
    (first | lia | omega)
/-- THE RULE: a def (or a method) of the text, by its body. The body's reading t is chosen for each entry; it is run at the parameters' values -/
theorem fn_of {CX : CXT} {P : Program} {w : World} {K : PySem.W.Frag} {mg : Str → Option Value} {base : Heap} {k : Nat} {f : Addr} {name qual : Str} {params : Arguments} {body : List Stmt} {scope : Scope} {dV kV doc pm cdv ct oc : Value} {an od : Option Addr}
    {osl : Array (Option Value)} {N ps : List Str} {sp : Sp} (lk : K.lookup f = some ⟨oc, od, .func (PySem.W.fnOf name qual params body scope dV kV doc pm an cdv ct), osl⟩) (hcd : PySem.W.codeIn K cdv qual = true) (S : FnScope N ps scope)
    (len : ∀ vs H Q E, sp vs H Q E → vs.length = ps.length)
    (hbody : ∀ (A : Around) (outer : List Env) (s : Shared) (H : Hp) (vs : List V) (Q : VK) (E : XK), Room k (A.deeper (envOfC qual scope s.heap.objs.size f cdv)) → sp vs H Q E →
      ∃ t, PSs (cxOf CX P w K mg base N qual scope f cdv A outer s H E) body t ∧ t { nx := fun _ H' => Q .non H', rt := Q } (start N vs) H) :
    FnOk P w K mg base CX (k + 1) f (PySem.W.fnOf name qual params body scope dV kV doc pm an cdv ct) ps sp := by
  refine ⟨len, fun A outer s H args us vs Q E hr e0 hb r hsp => ?_⟩
  have hl := len _ _ _ _ hsp
  have KX : K.In s.heap := e0.mod.kin.keeps fun b o e => (e0.bs b o e).1
  have lim : s.heap.NoLimit := e0.mod.nolimit.keeps fun b o e => (e0.bs b o e).1
  have hkind : ∀ y ∈ ps.zip us, scope.names.lookup y.1 = some .local ∨ (scope.names.lookup y.1 = some .cell ∧ ((cellsFrom (s.heap.objs.size + 1) scope.names []).lookup y.1).isSome = true) := fun ⟨n, v⟩ hy => by
    rcases S.par n (List.of_mem_zip hy).1 with q | q
    · exact .inl q
    · exact .inr ⟨q, PySem.W.cellsFrom_some _ _ _ (.inl q)⟩
  refine codeAny_call_function hr.depth (KX _ _ lk) rfl S.co S.gen rfl (PySem.W.codeRec_of KX hcd) (hb _ _ _ _ ?_)
  refine wpAny_newFunctionEnv_cells S.kind hkind fun env he s1 x => ?_
  subst he
  refine ⟨lim.keeps x.toInCall.keep, codeAny_func ?_⟩
  obtain ⟨t, ht, hq⟩ := hbody A outer s H vs Q E (hr.deeper _) hsp
  have I : Inv (cxOf CX P w K mg base N qual scope f cdv A outer s H E) [] (start N vs) H s1 := inv_start S hr.hd e0 hl r x
  refine wpAny_mono (ht [] s1 (start N vs) H _ I hq) (fun fl s' hs => ?_) fun e s' hs => hs
  have fin : ∀ {σ' : St} {H' : Hp} {v : V} {u : Value}, Inv (cxOf CX P w K mg base N qual scope f cdv A outer s H E) [] σ' H' s' → RelV v u → Q v H' → CE outer P w H s Q u s' :=
    fun {σ' H' v u} J rv q => ⟨v, H', J.os, J.bare, J.base, J.hok, rv, q⟩
  cases fl with
  | ret u =>
    obtain ⟨v, σ', H', J, rv, q⟩ := hs
    exact fin J rv q
  | next =>
    obtain ⟨σ', H', J, q⟩ := hs
    exact fin (v := V.non) (u := Value.none) J rfl q
  | brk =>
    obtain ⟨_, _, _, q⟩ := hs
    exact False.elim q
  | cont =>
    obtain ⟨_, _, _, q⟩ := hs
    exact False.elim q
end L2
namespace L2
open PySem PySem.Spec PyProof.Rows
section
variable {X : Cx} {x : Str} {p pos : Pos} {e : Expr} {es : List Expr} {t : TA} {id T : String} {r : List V → Hp → VK → Prop}
def tCB (r : List V → Hp → VK → Prop) (t : TA) : TE := fun σ H Q => t σ H fun vs H1 => r vs H1 Q
/-- f(e, ..), f a built-in function -/
theorem pe_callB (hc : CallR X (.builtin id) r) (hg : Gl X x) (hm : X.mg x = none) (hv : bootBuiltins x = some (.builtin id)) (ha : PA X (e :: es) t) (hn : x ≠ "__name__" := by decide) (hdb : (x == ("__debug__" : Str)) = false := by decide)
    (he : starEach (e :: es) X.env = (false, eval e X.env) :: starEach es X.env := by rfl) (hpl : (backTo pos (starEach es X.env)).any (·.1) = false := by rfl) : PE X (.Call (.Name x p) (e :: es) [] pos) (tCB r t) := by
  intro pins s σ H Q I h
  refine wpAny_Call_Name_kw (ld_blt I hg hm hv ?_ hn hdb)
  exact PyProof.Rows.callWith_builtin1 (thn (ha pos pins s σ H _ I h) fun us s1 ⟨vs, H1, I1, r1, q1⟩ => hc pins s1 σ H1 vs us Q I1 r1 q1) he hpl
/-- T(e, ..), T a built-in type -/
theorem pe_callTy (hc : CallR X (.type T) r) (hg : Gl X x) (hm : X.mg x = none) (hv : bootBuiltins x = some (.type T)) (ha : PA X (e :: es) t) (hn : x ≠ "__name__" := by decide) (hdb : (x == ("__debug__" : Str)) = false := by decide)
    (he : starEach (e :: es) X.env = (false, eval e X.env) :: starEach es X.env := by rfl) (hpl : (backTo pos (starEach es X.env)).any (·.1) = false := by rfl) : PE X (.Call (.Name x p) (e :: es) [] pos) (tCB r t) := by
  intro pins s σ H Q I h
  refine wpAny_Call_Name_kw (ld_blt I hg hm hv ?_ hn hdb)
  exact PyProof.Rows.callWith_type1 (thn (ha pos pins s σ H _ I h) fun us s1 ⟨vs, H1, I1, r1, q1⟩ => hc pins s1 σ H1 vs us Q I1 r1 q1) he hpl
end
end L2
namespace HT
open PySem PyProof.Rows
section
open PySem.SeqAt
open PySem.AutoSeq1 (wpAny_loadPart')
open PySem.MeetsSeq PySem.MeetsSeq2 PySem.MeetsSeq3
end
section
variable {prog : Program} {w : World} {A : Around} {E : Value → Shared → Prop} {s : Shared}
/-- t + u, t not empty -/
theorem cat_tup {t b : Addr} {vs ws : List Value} {Q : Value → Shared → Prop} (ht : IsTup s.heap t vs.toArray) (hb : IsTup s.heap b ws.toArray) (hv : vs ≠ [])
    (h1 : ws = [] → Q (.ref t) s) (h2 : ws ≠ [] → Q (.ref s.heap.objs.size) { s with heap := s.heap.push { cls := .type "tuple", data := .seq (vs ++ ws).toArray } })
    (hsz : vs.length + ws.length ≤ sizeLine) : wpAny (model prog w) A (binaryOp .Add (.ref t) (.ref b)) Q E s := by
  obtain ⟨⟨cls, dd, data, sl⟩, ho, hc, n, hd⟩ := id ht
  obtain ⟨⟨cls2, dd2, data2, sl2⟩, ho2, hc2, n2, hd2⟩ := id hb
  simp only at hc hd hc2 hd2
  subst hc hd hc2 hd2
  have e : vs.toArray ++ ws.toArray = (vs ++ ws).toArray := by simp
  by_cases hw : ws = []
  · exact concat_meets ⟨_, ho, rfl⟩ ⟨_, ho2, rfl⟩ noFill_tuple_add seq_tuple_add PySem.F.slot_tuple_add PySem.F.entry_tuple_add (PySem.F.args_tuple_add_2 _ _)
      (tuple_addW1 t b vs.toArray ws.toArray n n2 dd dd2 sl sl2 (by simpa using hv) (by simp [hw])) ⟨ho, ho2, h1 hw⟩
  · refine concat_meets ⟨_, ho, rfl⟩ ⟨_, ho2, rfl⟩ noFill_tuple_add seq_tuple_add PySem.F.slot_tuple_add PySem.F.entry_tuple_add (PySem.F.args_tuple_add_2 _ _)
      (tuple_addW2 t b vs.toArray ws.toArray n n2 dd dd2 sl sl2 (by simpa using hv) (by simpa using hw) (by rw [List.size_toArray, List.size_toArray]; exact hsz)) ⟨ho, ho2, ?_⟩
    rw [e]
    exact h2 hw
/-! ### t[a:b], not the whole -/
/-- a slice's bound as a place among n (d where it is left out) -/
def sIx (n d : Nat) : Option Int → Nat
  | none => d
  | some v => if v < 0 then (v + (n : Int)).toNat else min v.toNat n
theorem sIx_none (n d : Nat) : sIx n d none = d := rfl
theorem sIx_nat (n d k : Nat) : sIx n d (some (k : Int)) = min k n := by
  show (if (k : Int) < 0 then ((k : Int) + (n : Int)).toNat else min (k : Int).toNat n) = min k n
  rw [if_neg (by (first | lia | omega)), Int.toNat_natCast]
theorem sIx_le (n d : Nat) (hd : d ≤ n) (o : Option Int) : sIx n d o ≤ n := by
  cases o with
  | none => exact hd
  | some v =>
    show (if v < 0 then (v + (n : Int)).toNat else min v.toNat n) ≤ n
    by_cases hv : v < 0
    · rw [if_pos hv]; (first | lia | omega)
    · rw [if_neg hv]; exact Nat.min_le_right _ _
theorem clip_eq (v : Int) (n d : Nat) : (if v < 0 then max (v + (n : Int)) 0 else min v (n : Int)) = ((sIx n d (some v) : Nat) : Int) := by
  show (if v < 0 then max (v + (n : Int)) 0 else min v (n : Int)) = (((if v < 0 then (v + (n : Int)).toNat else min v.toNat n) : Nat) : Int)
  by_cases hv : v < 0
  · simp only [if_pos hv]; (first | lia | omega)
  · simp only [if_neg hv]; (first | lia | omega)
theorem adjust_gen (lo hi : Option Int) (n : Nat) : Builtin.Slice.sliceAdjust lo hi 1 (n : Int) = (((sIx n 0 lo : Nat) : Int), ((sIx n n hi : Nat) : Int)) := by
  have h1 : ¬ ((1 : Int) < 0) := by (first | lia | omega)
  unfold Builtin.Slice.sliceAdjust
  simp only [h1, if_false]
  refine Prod.ext ?_ ?_
  · cases lo with
    | none => rfl
    | some v => exact clip_eq v n 0
  · cases hi with
    | none => rfl
    | some v => exact clip_eq v n n
theorem places_gen (i j : Nat) : Builtin.Slice.slicePlaces (i : Int) (j : Int) 1 = j - i := by
  unfold Builtin.Slice.slicePlaces
  have h1 : (1 : Int) > 0 := by (first | lia | omega)
  simp only [h1, if_true, Int.ediv_one]
  split <;> (first | lia | omega)
theorem slicePart_ {v : Value} {o : Option Int} {Q : Option Int → Shared → Prop} (p : IsPart v o) (h : Q o s) : wpAny (model prog w) A (Builtin.Slice.slicePartIndex v) Q E s := by
  cases p with
  | none => exact slicePart_none h
  | int i t => exact slicePart_int h
theorem sliceApplied_gen {sl : Addr} {vl vu : Value} {lo hi : Option Int} {n : Nat} {Q : Int × Int × Nat → Shared → Prop} (hs : s.heap.IsSliceOf sl vl vu .none) (pl : IsPart vl lo) (pu : IsPart vu hi)
    (h : Q (((sIx n 0 lo : Nat) : Int), 1, sIx n n hi - sIx n 0 lo) s) : wpAny (model prog w) A (Builtin.Slice.sliceApplied (.ref sl) (pure (n : Int))) Q E s := by
  obtain ⟨os, hos, hcs, hds⟩ := id hs
  unfold Builtin.Slice.sliceApplied Builtin.Slice.sliceFields
  refine wpAny_bind (wpAny_bind (wpAny_field hos hds (x := vl) rfl (wpAny_bind (wpAny_field hos hds (x := vu) rfl (wpAny_bind (wpAny_field hos hds (x := .none) rfl (wpAny_pure ?_)))))))
  refine wpAny_bind (slicePart_none ?_)
  show wpAny _ _ (if ((1 : Int) == 0) = true then _ else _) _ _ s
  rw [if_neg (by decide)]
  refine wpAny_bind (slicePart_ pl (wpAny_bind (slicePart_ pu (wpAny_bind (wpAny_pure ?_)))))
  show wpAny _ _ (match Builtin.Slice.sliceAdjust lo hi 1 (n : Int) with | (lo, hi) => pure (lo, (1 : Int), Builtin.Slice.slicePlaces lo hi 1)) _ _ s
  rw [adjust_gen lo hi n]
  show wpAny _ _ (pure (((sIx n 0 lo : Nat) : Int), (1 : Int), Builtin.Slice.slicePlaces ((sIx n 0 lo : Nat) : Int) ((sIx n n hi : Nat) : Int) 1)) _ _ s
  rw [places_gen]
  exact wpAny_pure h
theorem pick_gen (xs : Array Value) (i k : Nat) : ((List.range k).filterMap fun (m : Nat) => xs[((i : Int) + (m : Int) * 1).toNat]?).toArray = ((xs.toList.drop i).take k).toArray := by
  have e : (fun (m : Nat) => xs[((i : Int) + (m : Int) * 1).toNat]?) = fun m => xs[i + m]? := by
    funext m
    have : ((i : Int) + (m : Int) * 1).toNat = i + m := by (first | lia | omega)
    rw [this]
  rw [e]
  have := pick_run xs i k
  rw [List.filterMap_map] at this
  have e2 : ((fun x => xs[x]?) ∘ fun x => i + x) = fun m => xs[i + m]? := rfl
  rw [e2] at this
  rw [this]
theorem getItem_tuple_cut {t sl : Addr} {items : Array Value} {vl vu : Value} {lo hi : Option Int} {Q : Value → Shared → Prop} (ht : IsTup s.heap t items) (hs : s.heap.IsSliceOf sl vl vu .none) (pl : IsPart vl lo) (pu : IsPart vu hi)
    (hw : ¬ (sIx items.size 0 lo = 0 ∧ sIx items.size items.size hi = items.size))
    (h : Q (.ref s.heap.objs.size) { s with heap := s.heap.push { cls := .type "tuple", data := .seq ((items.toList.drop (sIx items.size 0 lo)).take (sIx items.size items.size hi - sIx items.size 0 lo)).toArray } })
    (hsz : items.size ≤ sizeLine) : wpAny (model prog w) A (getItem (.ref t) (.ref sl)) Q E s := by
  have htake : sizeOk (.seq ((items.toList.drop (sIx items.size 0 lo)).take (sIx items.size items.size hi - sIx items.size 0 lo)).toArray) := by
    show ((items.toList.drop (sIx items.size 0 lo)).take (sIx items.size items.size hi - sIx items.size 0 lo)).toArray.size ≤ sizeLine
    rw [List.size_toArray, List.length_take, List.length_drop, Array.length_toList]
    (first | lia | omega)
  have hj : sIx items.size items.size hi ≤ items.size := sIx_le _ _ (Nat.le_refl _) hi
  obtain ⟨os, hos, hcs, hds⟩ := id hs
  have hTs : s.TypeIs (.ref sl) "slice" := ⟨os, hos, hcs⟩
  unfold getItem
  try with_reducible refine wpAny_holding ?_
  first | refine wpAny_bind (wpAny_pure ?_) | skip
  refine wpAny_bind (wpAny_sequenceKey ht.typeIs (by decide) ?_)
  refine wpAny_bind (wpAny_callSpecial?_slot (name := Str.ofString "__getitem__") ht.typeIs PyProof.Rows.slot_tuple_getitem
    (wpAny_call_entry PyProof.Rows.slot_tuple_getitem ht.typeIs entry_tuple_getitem ?_ (args_tuple_getitem _ _)))
  show wpAny _ _ (Builtin.Tuple.tupleItemsOf (.ref t) >>= _) _ _ s
  refine wpAny_bind (tupleItemsOf_ ht ?_)
  refine wpAny_bind (wpAny_typeOf hTs ?_)
  rw [if_pos (by decide)]
  refine wpAny_bind (sliceApplied_gen hs pl pu ?_)
  have hno : ¬ ((((sIx items.size 0 lo : Nat) : Int) == 0 && (1 : Int) == 1 && (sIx items.size items.size hi - sIx items.size 0 lo) == items.size) = true) := by
    intro q
    rw [Bool.and_eq_true, Bool.and_eq_true] at q
    have q1 : ((sIx items.size 0 lo : Nat) : Int) = 0 := eq_of_beq q.1.1
    have q2 : sIx items.size items.size hi - sIx items.size 0 lo = items.size := eq_of_beq q.2
    exact hw ⟨by (first | lia | omega), by (first | lia | omega)⟩
  show wpAny _ _ (if (((sIx items.size 0 lo : Nat) : Int) == 0 && (1 : Int) == 1 && (sIx items.size items.size hi - sIx items.size 0 lo) == items.size) = true then _ else _) _ _ s
  rw [if_neg hno, pick_gen]
  first
    | exact wpAny_bind (m := Builtin.Tuple.tupleExact _) (wpAny_newObj_type (wpAny_pure ⟨_, rfl, wpAny_pure h⟩) htake)
    | exact wpAny_bind (m := Builtin.Tuple.tupleExact _) (wpAny_newObj_type (wpAny_bind (wpAny_pure (wpAny_pure ⟨_, rfl, wpAny_pure h⟩))) htake)
    | exact wpAny_bind (wpAny_bind (m := Builtin.Tuple.tupleExact _) (wpAny_newObj_type (wpAny_pure (wpAny_pure ⟨_, rfl, wpAny_pure h⟩)) htake))
    | exact wpAny_bind (wpAny_bind (m := Builtin.Tuple.tupleExact _) (wpAny_newObj_type (wpAny_pure ⟨_, rfl, wpAny_pure h⟩) htake))
end
end HT
namespace L2
open PySem PySem.Spec PyProof.Rows
/-! ### the parts of a slice -/
abbrev TO := St → Hp → (Option Int → Hp → Prop) → Prop
/-- a slice's part (left out, or an int) -/
def PO (X : Cx) (e : Option Expr) (t : TO) : Prop :=
  ∀ (pins : List (Addr × Obj)) (s : Shared) (σ : St) (H : Hp) (Q : Option Int → Hp → Prop), Inv X pins σ H s → t σ H Q →
    wpAny (model X.prog X.w) X.A (evalPart e X.env) (fun u s' => ∃ o H', Inv X pins σ H' s' ∧ IsPart u o ∧ Q o H') X.xe s
def tNoPart : TO := fun _ H Q => Q none H
def tPart (t : TE) : TO := fun σ H Q => t σ H fun x H1 => ∃ i, x = .int i ∧ Q (some i) H1
theorem intsAre_of {ns : List Int} : ∀ {us : List Value}, Vals (ns.map V.int) us → IntsAre us ns := by
  induction ns with
  | nil => intro us r; rw [List.map_nil] at r; cases r; exact .nil
  | cons n ns ih =>
    intro us r
    rw [List.map_cons] at r
    cases r with
    | cons r1 r2 =>
      obtain ⟨t, e⟩ := r1
      subst e
      exact .cons n t (ih r2)
section
variable {X : Cx} {e : Expr} {te : TE} {lo hi : Option Expr} {tl th : TO} {pos p2 : Pos}
theorem po_none : PO X none tNoPart := by
  intro pins s σ H Q I h
  rw [evalPart_none]
  exact wpAny_pure ⟨none, H, I, .none, h⟩
theorem po_some (h : PE X e te) : PO X (some e) (tPart te) := by
  intro pins s σ H Q I hw
  rw [evalPart_some]
  refine thn (h pins s σ H _ I hw) fun u s1 ⟨x, H1, I1, r1, q1⟩ => ?_
  obtain ⟨i, rfl, q⟩ := q1
  obtain ⟨t, rfl⟩ := r1
  exact ⟨some i, H1, I1, .int i t, q⟩
/-- what a slice of a value is, by values: the slice object stands at sl -/
def SlR (X : Cx) (r : V → Option Int → Option Int → Hp → VK → Prop) : Prop :=
  ∀ (pins : List (Addr × Obj)) (s : Shared) (σ : St) (H : Hp) (x : V) (v vl vu : Value) (lo hi : Option Int) (sl : Addr) (Q : VK), Inv X pins σ H s → RelV x v → s.heap.IsSliceOf sl vl vu .none → IsPart vl lo → IsPart vu hi → r x lo hi H Q →
    ∃ T id, typeLookup (.type T) "__getitem__" = pure (some (.builtin id)) ∧ s.TypeIs v T ∧ wpAny (model X.prog X.w) X.A (getItem v (.ref sl)) (EP X pins σ Q) X.xe s
def tSl (r : V → Option Int → Option Int → Hp → VK → Prop) (te : TE) (tl th : TO) : TE := fun σ H Q => te σ H fun x H1 => tl σ H1 fun l H2 => th σ H2 fun u H3 => r x l u H3 Q
/-- a[lo:hi], any a -/
theorem pe_slice {r : V → Option Int → Option Int → Hp → VK → Prop} (hr : SlR X r) (he : PE X e te) (hl : PO X lo tl) (hu : PO X hi th) : PE X (.Subscript e (.Slice lo hi none p2) pos) (tSl r te tl th) := by
  intro pins s σ H Q I h
  refine Subscript_ (thn (he pins s σ H _ I h) fun v s1 ⟨x, H1, I1, r1, q1⟩ => ?_)
  refine wpAny_Slice (thn (hl pins s1 σ H1 _ I1 q1) fun vl s2 ⟨l, H2, I2, pl, q2⟩ => thn (hu pins s2 σ H2 _ I2 q2) fun vu s3 ⟨u, H3, I3, pu, q3⟩ => ?_)
  rw [evalPart_none]
  refine wpAny_pure ?_
  have I4 : Inv X pins σ H3 { s3 with heap := s3.heap.push { cls := .type "slice", data := .fields #[vl, vu, .none] } } := I3.kept (t' := s3.toks) fun b ob q => Heap.get?_push_of_some _ q
  obtain ⟨T, id, hT, ht, hg⟩ := hr pins { s3 with heap := s3.heap.push { cls := .type "slice", data := .fields #[vl, vu, .none] } } σ H3 x v vl vu l u s3.heap.objs.size Q I4 r1 (Heap.IsSliceOf.new ..) pl pu q3
  show wpAny (model X.prog X.w) X.A (subscriptTail e (.Slice lo hi none p2) v (.ref s3.heap.objs.size)) (EP X pins σ Q) X.xe { s3 with heap := s3.heap.push { cls := .type "slice", data := .fields #[vl, vu, .none] } }
  exact tail_any (ops := [.ref s3.heap.objs.size, v]) ht hT hg (by with_unfolding_all rfl)
/-- the items of xs[lo:hi] -/
def cutV (xs : List V) (lo hi : Option Int) : List V := (xs.drop (HT.sIx xs.length 0 lo)).take (HT.sIx xs.length xs.length hi - HT.sIx xs.length 0 lo)
theorem cutV_length (xs : List V) (lo hi : Option Int) : (cutV xs lo hi).length ≤ xs.length := by
  unfold cutV
  rw [List.length_take, List.length_drop]
  (first | lia | omega)
/-- t[lo:hi], not the whole of it (the whole would be t itself) -/
def rSlT (K : PySem.W.Frag) : V → Option Int → Option Int → Hp → VK → Prop := fun x lo hi H Q => ∃ a xs, x = .ref a ∧ SqT K H a xs ∧
  ¬ (HT.sIx xs.length 0 lo = 0 ∧ HT.sIx xs.length xs.length hi = xs.length) ∧ ∀ p, H p = none → Q (.ref p) (upd H p (.tup (cutV xs lo hi)))
theorem sl_tup : SlR X (rSlT X.K) := by
  intro pins s σ H x v vl vu lo hi sl Q I rx hs pl pu h
  obtain ⟨a, xs, rfl, hx, hw, q⟩ := h
  cases rx
  obtain ⟨its, r, ht, hz⟩ := I.tuple hx
  have hlen : its.toArray.size = xs.length := by rw [List.size_toArray]; exact r.length.symm
  refine ⟨"tuple", _, PyProof.Rows.slot_tuple_getitem.lookup, ht.typeIs, ?_⟩
  refine HT.getItem_tuple_cut ht hs pl pu (by rw [hlen]; exact hw) ?_ (by rw [hlen]; exact hz)
  rw [hlen]
  refine ⟨.ref s.heap.objs.size, _, I.laid (t' := s.toks) (o := .tup (cutV xs lo hi)) (fun b ob q => Heap.get?_push_of_some _ q) (Nat.le_refl _) ?_, rfl, q _ (I.hok.fresh (Nat.le_refl _))⟩
  exact ⟨⟨Nat.le_trans (cutV_length xs lo hi) hz, _, Heap.get?_push_size _ rfl, rfl⟩, _, (r.drop (HT.sIx xs.length 0 lo)).take (HT.sIx xs.length xs.length hi - HT.sIx xs.length 0 lo), IsTup.new _ _⟩
/-- t + u, t not empty: u empty gives t itself -/
def rCatT (K : PySem.W.Frag) : R2 := fun x y H Q => ∃ a b xs ys, x = .ref a ∧ y = .ref b ∧ SqT K H a xs ∧ SqT K H b ys ∧ xs ≠ [] ∧ xs.length + ys.length ≤ sizeLine ∧
  (ys = [] → Q (.ref a) H) ∧ (ys ≠ [] → ∀ p, H p = none → Q (.ref p) (upd H p (.tup (xs ++ ys))))
theorem Vals.nil_iff {xs : List V} {us : List Value} (r : Vals xs us) : us = [] ↔ xs = [] := by
  cases r with
  | nil => simp
  | cons _ _ => simp
theorem op_catT : OpR X (binaryOp .Add) (rCatT X.K) := by
  intro pins s σ H x y v u Q I rx ry h
  obtain ⟨a, b, xs, ys, rfl, rfl, ha, hb, hx, hz, q1, q2⟩ := h
  cases rx
  cases ry
  obtain ⟨its, r1, p1, _⟩ := I.tuple ha
  obtain ⟨its2, r2, p2, _⟩ := I.tuple hb
  refine HT.cat_tup p1 p2 (fun z => hx (r1.nil_iff.mp z)) (fun z => ⟨.ref a, H, I, rfl, q1 (r2.nil_iff.mp z)⟩) (fun z => ?_) (by rw [← r1.length, ← r2.length]; exact hz)
  refine ⟨.ref s.heap.objs.size, _, I.laid (t' := s.toks) (o := .tup (xs ++ ys)) (fun b ob q => Heap.get?_push_of_some _ q) (Nat.le_refl _) ?_, rfl, q2 (fun w => z (r2.nil_iff.mpr w)) _ (I.hok.fresh (Nat.le_refl _))⟩
  exact ⟨⟨by rw [List.length_append]; exact hz, _, Heap.get?_push_size _ rfl, rfl⟩, _, r1.append r2, IsTup.new _ _⟩
end
end L2
namespace L2
open PySem PySem.Spec PyProof.Rows
/-! ### places -/
/-- the place that an index of any sign means -/
def ixN (n : Nat) (i : Int) : Option Nat := if 0 ≤ i then (if i < n then some i.toNat else none) else if -(n : Int) ≤ i then some (i + n).toNat else none
def atI {α : Type} (xs : List α) (i : Int) : Option α := (ixN xs.length i).bind fun j => xs[j]?
theorem ixN_seq {n : Nat} {i : Int} {j : Nat} (h : ixN n i = some j) : seqIndex? i n = some j ∧ j < n ∧ -(n : Int) ≤ i ∧ i < n := by
  unfold ixN at h
  by_cases h0 : 0 ≤ i
  · rw [if_pos h0] at h
    by_cases h1 : i < n
    · rw [if_pos h1] at h
      have e : i.toNat = j := Option.some.inj h
      exact ⟨by rw [seqIndex_of h0 h1, e], by (first | lia | omega), by (first | lia | omega), h1⟩
    · rw [if_neg h1] at h; cases h
  · rw [if_neg h0] at h
    by_cases h1 : -(n : Int) ≤ i
    · rw [if_pos h1] at h
      have e : (i + n).toNat = j := Option.some.inj h
      exact ⟨by rw [seqIndex_neg (by (first | lia | omega)) h1, e], by (first | lia | omega), h1, by (first | lia | omega)⟩
    · rw [if_neg h1] at h; cases h
theorem atI_get {α : Type} {xs : List α} {i : Int} {v : α} (h : atI xs i = some v) : ∃ j, seqIndex? i xs.length = some j ∧ xs[j]? = some v ∧ j < xs.length ∧ -(xs.length : Int) ≤ i ∧ i < xs.length := by
  unfold atI at h
  cases e : ixN xs.length i with
  | none => rw [e] at h; cases h
  | some j =>
    rw [e] at h
    obtain ⟨h1, h2, h3, h4⟩ := ixN_seq e
    exact ⟨j, h1, h, h2, h3, h4⟩
theorem atI_nat {α : Type} {xs : List α} {j : Nat} {v : α} (h : xs[j]? = some v) : atI xs (j : Int) = some v := by
  have hj : j < xs.length := (List.getElem?_eq_some_iff.mp h).1
  have e : ixN xs.length (j : Int) = some j := by
    unfold ixN
    rw [if_pos (by (first | lia | omega)), if_pos (by (first | lia | omega))]; simp
  unfold atI; rw [e]; exact h
/-! ### what may be subscripted -/
/-- what stands as an index of a plain subscript -/
def PlainIx (b : Expr) : Prop := ∀ o i, subscripted b false o i = operate [o, i] (getItem o i)
/-- a subscript by values -/
def IxR (X : Cx) (r : R2) : Prop :=
  ∀ (value slice : Expr) (pins : List (Addr × Obj)) (s : Shared) (σ : St) (H : Hp) (x y : V) (v u : Value) (Q : VK), Inv X pins σ H s → RelV x v → RelV y u → r x y H Q →
    subscripted slice false v u = operate [v, u] (getItem v u) → wpAny (model X.prog X.w) X.A (subscriptTail value slice v u) (EP X pins σ Q) X.xe s
/-- a call of a builtin's method by values: the receiver, the arguments -/
def MtR (X : Cx) (id : String) (r : V → List V → Hp → VK → Prop) : Prop :=
  ∀ (pins : List (Addr × Obj)) (s : Shared) (σ : St) (H : Hp) (x : V) (xs : List V) (v : Value) (us : List Value) (Q : VK), Inv X pins σ H s → RelV x v → Vals xs us → r x xs H Q →
    wpAny (model X.prog X.w) X.A (call (.builtin id) (v :: us)) (EP X pins σ Q) X.xe s
section
variable {X : Cx} {a b : Expr} {ta tb : TE} {pos : Pos}
theorem IxR.or {r r' : R2} (h : IxR X r) (h' : IxR X r') : IxR X (fun x y H Q => r x y H Q ∨ r' x y H Q) := by
  intro value slice pins s σ H x y v u Q I rx ry q hs
  rcases q with q | q
  · exact h value slice pins s σ H x y v u Q I rx ry q hs
  · exact h' value slice pins s σ H x y v u Q I rx ry q hs
/-- a[b] -/
theorem pe_ix {r : R2} (hr : IxR X r) (ha : PE X a ta) (hb : PE X b tb) (hs : PlainIx b) : PE X (.Subscript a b pos) (tOp r ta tb) := by
  intro pins s σ H Q I h
  exact Subscript_ (binT ha hb I h fun v u s2 x y H2 I2 rx ry q => hr a b pins s2 σ H2 x y v u Q I2 rx ry q (hs _ _))
def rIxL (K : PySem.W.Frag) : R2 := fun x y H Q => ∃ p xs i v, x = .ref p ∧ y = .int i ∧ SqL K H p xs ∧ atI xs i = some v ∧ Q v H
def rIxT (K : PySem.W.Frag) : R2 := fun x y H Q => ∃ p xs i v, x = .ref p ∧ y = .int i ∧ SqT K H p xs ∧ atI xs i = some v ∧ Q v H
def rIxS : R2 := fun x y H Q => ∃ z i c, x = .str z ∧ y = .int i ∧ z.length ≤ sizeLine ∧ atI z.cps.toList i = some c ∧ Q (.str ⟨#[c]⟩) H
theorem ix_list : IxR X (rIxL X.K) := by
  intro value slice pins s σ H x y v u Q I rx ry h hs
  obtain ⟨p, xs, i, z, rfl, rfl, hq, he, q⟩ := h
  cases rx
  obtain ⟨t, rfl⟩ := ry
  obtain ⟨its, r, pl, hz⟩ := I.list hq
  obtain ⟨j, h1, h2, h3, h4, h5⟩ := atI_get he
  obtain ⟨w, ew, rw'⟩ := r.get h2
  have hl := r.length
  have hn := line63
  have fin : EP X pins σ Q w s := ⟨z, H, I, rw', q⟩
  by_cases h0 : 0 ≤ i
  · have hj : i.toNat = j := by
      rw [seqIndex_of h0 h5] at h1
      exact Option.some.inj h1
    exact item_listR pl.isList h0 (by (first | lia | omega)) (by rw [hj]; simpa using ew) fin hs
  · have hj : (i + (its.toArray.size : Int)).toNat = j := by
      rw [seqIndex_neg (by (first | lia | omega)) h4] at h1
      rw [List.size_toArray, ← hl]
      exact Option.some.inj h1
    exact subscriptTail_builtinR (x := w) pl.isList.typeIs slot_list_getitem.lookup
      (wpAny_getItem_list_neg (Q := fun r s' => r = w ∧ EP X pins σ Q r s') pl.isList (by (first | lia | omega)) (by rw [List.size_toArray] <;> (first | lia | omega)) (by (first | lia | omega)) (by rw [hj]; simpa using ew) ⟨rfl, fin⟩) hs
theorem ix_tup : IxR X (rIxT X.K) := by
  intro value slice pins s σ H x y v u Q I rx ry h hs
  obtain ⟨p, xs, i, z, rfl, rfl, hq, he, q⟩ := h
  cases rx
  obtain ⟨t, rfl⟩ := ry
  obtain ⟨its, r, pl, hz⟩ := I.tuple hq
  obtain ⟨j, h1, h2, h3, h4, h5⟩ := atI_get he
  obtain ⟨w, ew, rw'⟩ := r.get h2
  have hl := r.length
  have hn := line63
  have fin : EP X pins σ Q w s := ⟨z, H, I, rw', q⟩
  exact subscriptTail_builtinR (x := w) pl.typeIs slot_tuple_getitem.lookup
    (getItem_tuple (j := j) (Q := fun r s' => r = w ∧ EP X pins σ Q r s') pl (by (first | lia | omega)) (by (first | lia | omega)) (by rw [List.size_toArray, ← hl]; exact h1) (by simpa using ew) ⟨rfl, fin⟩) hs
theorem ix_str : IxR X rIxS := by
  intro value slice pins s σ H x y v u Q I rx ry h hs
  obtain ⟨z, i, c, rfl, rfl, hz, he, q⟩ := h
  obtain ⟨t, rfl⟩ := rx
  obtain ⟨t', rfl⟩ := ry
  obtain ⟨j, h1, h2, h3, h4, h5⟩ := atI_get he
  have hl : z.cps.toList.length = z.length := by simp [Str.length]
  rw [hl] at h1 h4 h5
  have hn := line63
  exact tail_any (typeIs_str s z t) slot_str_getitem.lookup (getItem_str (c := c) (by
    have e1 : decide (i < -(2 ^ 63 : Int)) = false := decide_eq_false (by (first | lia | omega))
    have e2 : decide (i ≥ 2 ^ 63) = false := decide_eq_false (by (first | lia | omega))
    rw [e1, e2, Bool.or_false]) (by rw [h1]; simpa using h2) ⟨.str ⟨#[c]⟩, H, I.tok _, ⟨_, rfl⟩, q⟩) hs
/-- list, tuple or str -/
def rIx (K : PySem.W.Frag) : R2 := fun x y H Q => rIxL K x y H Q ∨ rIxT K x y H Q ∨ rIxS x y H Q
theorem ix_seq : IxR X (rIx X.K) := ix_list.or (ix_tup.or ix_str)
/-! ### xs[i] = v, any sign -/
/-- the list's object behind a store -/
theorem mapSeq_set (its : List Value) (n j : Nat) (u : Value) : Obj.mapSeq (·.setIfInBounds j u) { cls := .type "list", data := .seq its.toArray n } = { cls := .type "list", data := .seq (its.set j u).toArray n } := by
  simp [Obj.mapSeq]
theorem Inv.lst {pins : List (Addr × Obj)} {σ : St} {H : Hp} {s : Shared} {p : Addr} {xs : List V} (I : Inv X pins σ H s) (h : H p = some (.lst xs)) :
    ∃ (its : List Value) (n : Nat), Vals xs its ∧ s.heap.get? p = some { cls := .type "list", data := .seq its.toArray n } ∧ xs.length ≤ sizeLine := by
  obtain ⟨z, its, n, r, e⟩ := I.hok p _ h
  exact ⟨its, n, r, e, z⟩
/-- the list at p is written by an update of its object -/
theorem Inv.lstUpd {pins : List (Addr × Obj)} {σ : St} {H : Hp} {s : Shared} {p : Addr} {xs ys : List V} {its its' : List Value} {n n' : Nat} {f : Obj → Obj} (I : Inv X pins σ H s) (h : H p = some (.lst xs))
    (ho : s.heap.get? p = some { cls := .type "list", data := .seq its.toArray n }) (hf : f { cls := .type "list", data := .seq its.toArray n } = { cls := .type "list", data := .seq its'.toArray n' }) (r : Vals ys its') (hz : ys.length ≤ sizeLine) (t : Nat) :
    Inv X pins σ (upd H p (.lst ys)) { s with heap := s.heap.update p f, toks := t } := by
  have e : (s.heap.update p f).get? p = some { cls := .type "list", data := .seq its'.toArray n' } := by
    rw [Heap.get?_update_self f ho (by rw [hf] <;> rfl), hf]
  refine I.write (x := p) (e := p) (by rw [h]; trivial) (.inl rfl) (fun b u hb q => (Heap.get?_update_other _ _ (Ne.symm hb)).trans q) ⟨_, e⟩ ?_
  exact ⟨hz, its', n', r, e⟩
def rSetL : V → V → V → Hp → (Hp → Prop) → Prop := fun o i v H Q => ∃ p xs k j, o = .ref p ∧ i = .int k ∧ H p = some (.lst xs) ∧ ixN xs.length k = some j ∧ Q (upd H p (.lst (xs.set j v)))
theorem set_list : PSet X rSetL := by
  intro pins s σ H o i v ov iv u Q I ro ri rv h
  obtain ⟨p, xs, k, j, rfl, rfl, hp, hj, q⟩ := h
  cases ro
  obtain ⟨t, rfl⟩ := ri
  obtain ⟨its, n, r, ho, hz⟩ := I.lst hp
  obtain ⟨h1, h2, h3, h4⟩ := ixN_seq hj
  have hl := r.length
  have hn := line63
  have I' : Inv X pins σ (upd H p (.lst (xs.set j v))) { s with heap := s.heap.update p (Obj.mapSeq (·.setIfInBounds j u)) } :=
    I.lstUpd hp ho (mapSeq_set its n j u) (r.set rv j) (by rw [List.length_set]; exact hz) s.toks
  by_cases h0 : 0 ≤ k
  · have hk : k.toNat = j := by
      rw [seqIndex_of h0 h4] at h1
      exact Option.some.inj h1
    exact PySem.W.ki_setAt ho h0 (by (first | lia | omega)) (by rw [List.size_toArray, ← hl]; exact h4) (by rw [hk]; exact ⟨_, I', q⟩)
  · have hk : (k + (its.toArray.size : Int)).toNat = j := by
      rw [seqIndex_neg (by (first | lia | omega)) h3] at h1
      rw [List.size_toArray, ← hl]
      exact Option.some.inj h1
    exact PySem.W.ki_setBack ho (by (first | lia | omega)) (by rw [List.size_toArray, ← hl]; exact h3) (by (first | lia | omega)) (by rw [hk]; exact ⟨_, I', q⟩)
/-! ### slices -/
theorem slice_bounds (lo hi : Option Int) (n : Nat) : (sliceBounds lo hi none n).1 = ((HT.sIx n 0 lo : Nat) : Int) ∧ (sliceBounds lo hi none n).2.1 = ((HT.sIx n n hi : Nat) : Int) ∧ (sliceBounds lo hi none n).2.2 = 1 := by
  refine ⟨?_, ?_, rfl⟩
  · cases lo with
    | none => simp [sliceBounds, HT.sIx]
    | some i =>
      simp only [sliceBounds, HT.sIx, Option.getD_none, show (1 : Int) > 0 by decide, if_true]
      by_cases h : i < 0
      · simp only [h, if_true] <;> (first | lia | omega)
      · simp only [h, if_false] <;> (first | lia | omega)
  · cases hi with
    | none => simp [sliceBounds, HT.sIx]
    | some i =>
      simp only [sliceBounds, HT.sIx, Option.getD_none, show (1 : Int) > 0 by decide, if_true]
      by_cases h : i < 0
      · simp only [h, if_true] <;> (first | lia | omega)
      · simp only [h, if_false] <;> (first | lia | omega)
theorem slicePick_cut (its : List Value) (lo hi : Option Int) : slicePick its.toArray lo hi none = ((its.drop (HT.sIx its.length 0 lo)).take (HT.sIx its.length its.length hi - HT.sIx its.length 0 lo)).toArray := by
  obtain ⟨h1, h2, h3⟩ := slice_bounds lo hi its.toArray.size
  unfold slicePick
  rw [h1, h2, h3]
  simp only [sliceRange_one, pick_run, List.size_toArray] <;> rfl
/-- xs[lo:hi] of a list: a new list -/
def rSlL (K : PySem.W.Frag) : V → Option Int → Option Int → Hp → VK → Prop := fun x lo hi H Q => ∃ a xs, x = .ref a ∧ SqL K H a xs ∧ ∀ p, H p = none → Q (.ref p) (upd H p (.lst (cutV xs lo hi)))
theorem sl_list : SlR X (rSlL X.K) := by
  intro pins s σ H x v vl vu lo hi sl Q I rx hs pl pu h
  obtain ⟨a, xs, rfl, hx, q⟩ := h
  cases rx
  obtain ⟨its, r, ht, hz⟩ := I.list hx
  have hlen := r.length
  refine ⟨"list", _, slot_list_getitem.lookup, ht.isList.typeIs, ?_⟩
  refine wpAny_getItem_list_slice ht.isList hs pl pu .none (by simp) ?_ (by rw [List.size_toArray] <;> (first | lia | omega))
  rw [slicePick_cut, ← hlen]
  refine ⟨.ref s.heap.objs.size, _, I.laid (t' := s.toks) (o := .lst (cutV xs lo hi)) (fun b ob q => Heap.get?_push_of_some _ q) (Nat.le_refl _) ?_, rfl, q _ (I.hok.fresh (Nat.le_refl _))⟩
  exact ⟨Nat.le_trans (cutV_length xs lo hi) hz, _, 0, (r.drop (HT.sIx xs.length 0 lo)).take (HT.sIx xs.length xs.length hi - HT.sIx xs.length 0 lo), Heap.get?_push_size _ rfl⟩
/-! ### in, not in: flat items -/
def flatV : V → Bool
  | .non => true
  | .bl _ => true
  | .int _ => true
  | .str _ => true
  | _ => false
/-- == of flat values -/
def eqV : V → V → Bool
  | .non, .non => true
  | .bl a, .bl b => a == b
  | .bl a, .int b => (if a then 1 else 0) == b
  | .int a, .bl b => a == (if b then 1 else 0)
  | .int a, .int b => a == b
  | .str a, .str b => a == b
  | _, _ => false
theorem eqAt_V {A : Around} {s : Shared} {y x : V} {u v : Value} (ry : RelV y u) (rx : RelV x v) (fy : flatV y = true) (fx : flatV x = true) : SeqAt.EqAt A s u v (eqV y x) := by
  cases y with
  | non =>
    cases ry
    cases x with
    | non => cases rx; exact SeqAt.EqAt.same _
    | bl b => cases rx; exact SeqAt.EqAt.none_bool b
    | int b => obtain ⟨t, rfl⟩ := rx; exact SeqAt.EqAt.none_int b t
    | str b => obtain ⟨t, rfl⟩ := rx; exact SeqAt.EqAt.none_str b t
    | _ => exact absurd (show false = true from fx) Bool.false_ne_true
  | bl a =>
    cases ry
    cases x with
    | non => cases rx; exact SeqAt.EqAt.bool_none a
    | bl b => cases rx; exact SeqAt.EqAt.bool_bool a b
    | int b => obtain ⟨t, rfl⟩ := rx; exact SeqAt.EqAt.bool_int a b t
    | str b => obtain ⟨t, rfl⟩ := rx; exact SeqAt.EqAt.bool_str a b t
    | _ => exact absurd (show false = true from fx) Bool.false_ne_true
  | int a =>
    obtain ⟨t', rfl⟩ := ry
    cases x with
    | non => cases rx; exact SeqAt.EqAt.int_none a t'
    | bl b => cases rx; exact SeqAt.EqAt.int_bool a t' b
    | int b => obtain ⟨t, rfl⟩ := rx; exact SeqAt.EqAt.int_int a t' b t
    | str b => obtain ⟨t, rfl⟩ := rx; exact SeqAt.EqAt.int_str a t' b t
    | _ => exact absurd (show false = true from fx) Bool.false_ne_true
  | str a =>
    obtain ⟨t', rfl⟩ := ry
    cases x with
    | non => cases rx; exact SeqAt.EqAt.str_none a t'
    | bl b => cases rx; exact SeqAt.EqAt.str_bool a t' b
    | int b => obtain ⟨t, rfl⟩ := rx; exact SeqAt.EqAt.str_int a t' b t
    | str b => obtain ⟨t, rfl⟩ := rx; exact SeqAt.EqAt.str_str a t' b t
    | _ => exact absurd (show false = true from fx) Bool.false_ne_true
  | _ => exact absurd (show false = true from fy) Bool.false_ne_true
/-- the items' answers, read off the values (a value's own answer does not lean on its token) -/
def eqU (x : V) (u : Value) : Bool := match u with
  | .none => eqV .non x
  | .bool b => eqV (.bl b) x
  | .int i _ => eqV (.int i) x
  | .str z _ => eqV (.str z) x
  | _ => false
theorem eqU_of {x y : V} {u : Value} (r : RelV y u) (f : flatV y = true) : eqU x u = eqV y x := by
  cases y with
  | non => cases r; rfl
  | bl b => cases r; rfl
  | int i => obtain ⟨t, rfl⟩ := r; rfl
  | str z => obtain ⟨t, rfl⟩ := r; rfl
  | _ => exact absurd (show false = true from f) Bool.false_ne_true
theorem any_eqU {x : V} : ∀ {xs : List V} {us : List Value}, Vals xs us → xs.all flatV = true → us.any (eqU x) = xs.any fun y => eqV y x
  | _, _, .nil, _ => rfl
  | y :: xs, u :: us, .cons r t, f => by
    rw [List.all_cons, Bool.and_eq_true] at f
    rw [List.any_cons, List.any_cons, eqU_of r f.1, any_eqU t f.2]
theorem mem_eqAt {A : Around} {s : Shared} {x : V} {v : Value} (rx : RelV x v) (fx : flatV x = true) : ∀ {xs : List V} {us : List Value}, Vals xs us → xs.all flatV = true → ∀ u ∈ us, SeqAt.EqAt A s u v (eqU x u)
  | _, _, .nil, _ => fun u hu => by cases hu
  | y :: xs, u :: us, .cons r t, f => fun u' hu => by
    rw [List.all_cons, Bool.and_eq_true] at f
    rcases List.mem_cons.mp hu with rfl | hu
    · rw [eqU_of r f.1]; exact eqAt_V r rx f.1 fx
    · exact mem_eqAt rx fx t f.2 u' hu
def inV (x : V) (xs : List V) : Bool := xs.any fun y => eqV y x
/-- x in a list or tuple of flat items -/
def rIn (K : PySem.W.Frag) (neg : Bool) : R2 := fun x y H Q => ∃ p xs, y = .ref p ∧ (SqL K H p xs ∨ SqT K H p xs) ∧ flatV x = true ∧ xs.all flatV = true ∧ Q (.bl (if neg then !inV x xs else inV x xs)) H
theorem op_notIn_seq : OpR X (compareOp .NotIn) (rIn X.K true) := by
  intro pins s σ H x y v u Q I rx ry h
  obtain ⟨p, xs, rfl, hq, fx, fs, q⟩ := h
  cases ry
  rcases hq with hq | hq
  · obtain ⟨its, r, pl, hz⟩ := I.list hq
    refine SeqAt.notIn_listAt (eqU x) pl.isList (fun w hw => mem_eqAt rx fx r fs w (by simpa using hw)) ⟨.bl _, H, I, rfl, ?_⟩
    rw [show its.toArray.any (eqU x) = its.any (eqU x) by simp, any_eqU r fs]
    exact q
  · obtain ⟨its, r, pl, hz⟩ := I.tuple hq
    refine SeqAt.notIn_tupleAt (eqU x) pl (fun w hw => mem_eqAt rx fx r fs w (by simpa using hw)) ⟨.bl _, H, I, rfl, ?_⟩
    rw [show its.toArray.any (eqU x) = its.any (eqU x) by simp, any_eqU r fs]
    exact q
theorem call_tuple_of : CallR X (.type "tuple") (fun xs H Q => ∃ p ys, xs = [.ref p] ∧ ((SqL X.K H p ys ∧ ∀ l, H l = none → Q (.ref l) (upd H l (.tup ys))) ∨ (SqT X.K H p ys ∧ Q (.ref p) H))) := by
  intro pins s σ H xs us Q I r h
  obtain ⟨p, ys, rfl, h⟩ := h
  obtain ⟨u, rfl, rx⟩ := vals1 r
  cases rx
  rcases h with ⟨hq, q⟩ | ⟨hq, q⟩
  · obtain ⟨its, r', pl, hz⟩ := I.list hq
    have hlen := r'.length
    refine call_tuple_list pl.isList (fun h' kp => ?_) (by simp only [List.size_toArray] <;> (first | lia | omega))
    have I1 : Inv X pins σ H { s with heap := h' } := I.kept (t' := s.toks) kp
    have I2 : Inv X pins σ (upd H h'.objs.size (.tup ys)) { s with heap := h'.push { cls := .type "tuple", data := .seq its.toArray } } :=
      I1.laid (t' := s.toks) (fun b o e => Heap.get?_push_of_some _ e) (Nat.le_refl _) (show ObjOk X.prog X.w _ _ _ (.tup ys) from ⟨⟨hz, _, Heap.get?_push_size _ rfl, rfl⟩, its, r', IsTup.new _ _⟩)
    exact ⟨.ref h'.objs.size, _, I2, rfl, q _ (I1.hok.fresh (Nat.le_refl _))⟩
  · obtain ⟨its, r', pl, hz⟩ := I.tuple hq
    exact call_tuple_same pl ⟨.ref p, H, I, rfl, q⟩
/-! ### the call of a builtin's method: o.m(..) -/
/-- the value is of that builtin type -/
def tyV (K : PySem.W.Frag) (T : String) (x : V) (H : Hp) : Prop := match x with
  | .str _ => T = "str"
  | .int _ => T = "int"
  | .ref p => (T = "list" ∧ ∃ xs, SqL K H p xs) ∨ (T = "tuple" ∧ ((∃ o, K.lookup p = some o ∧ o.cls = .type "tuple" ∧ o.dict = none) ∨ ∃ xs, H p = some (.tup xs))) ∨
      (T = "dict" ∧ ((∃ kvs, H p = some (.dK kvs)) ∨ ∃ kvs, H p = some (.dT kvs))) ∨ (T = "set" ∧ ∃ S n, H p = some (.set S n))
  | _ => False
theorem tyV_is {pins : List (Addr × Obj)} {σ : St} {H : Hp} {s : Shared} {T : String} {x : V} {v : Value} (I : Inv X pins σ H s) (r : RelV x v) (ty : tyV X.K T x H) :
    s.TypeIs v T ∧ ∀ a, v = .ref a → ∃ ob, s.heap.get? a = some ob ∧ ob.dict = none := by
  cases x with
  | str z =>
    obtain ⟨t, rfl⟩ := r
    cases (show T = "str" from ty)
    exact ⟨typeIs_str s z t, fun _ e => nomatch e⟩
  | int i =>
    obtain ⟨t, rfl⟩ := r
    cases (show T = "int" from ty)
    exact ⟨typeIs_int s i t, fun _ e => nomatch e⟩
  | ref p =>
    cases r
    rcases ty with ⟨rfl, xs, hq⟩ | ⟨rfl, ⟨o, hk, hc, hd⟩ | ⟨xs, hq⟩⟩ | ⟨rfl, hk⟩ | ⟨rfl, S, n, hk⟩
    · obtain ⟨its, _, pl, _⟩ := I.list hq
      refine ⟨pl.isList.typeIs, fun a e => ?_⟩
      cases e
      obtain ⟨o, n, e, c, hd, _⟩ := pl
      exact ⟨o, e, hd⟩
    · refine ⟨⟨o, I.kIn p o hk, hc⟩, fun a e => ?_⟩
      cases e
      exact ⟨o, I.kIn _ o hk, hd⟩
    · obtain ⟨⟨_, on, en, dn⟩, _, _, o, e1, e2, _⟩ := (show ObjOk X.prog X.w H s.heap p (.tup xs) from I.hok p _ hq)
      refine ⟨⟨o, e1, e2⟩, fun a e => ?_⟩
      cases e
      exact ⟨on, en, dn⟩
    · have z : ∃ o, s.heap.get? p = some o ∧ o.ExactDict := by
        rcases hk with ⟨kvs, hk⟩ | ⟨kvs, hk⟩
        · obtain ⟨_, _, _, _, o, _, _, e, ex, _⟩ := I.hok p _ hk
          exact ⟨o, e, ex⟩
        · obtain ⟨_, _, _, _, o, _, _, e, ex, _⟩ := I.hok p _ hk
          exact ⟨o, e, ex⟩
      obtain ⟨o, e, ex⟩ := z
      refine ⟨⟨o, e, ex.1⟩, fun a e2 => ?_⟩
      cases e2
      exact ⟨o, e, ex.2.1⟩
    · obtain ⟨o, _, _, _, e, ex, _⟩ := I.hok p _ hk
      refine ⟨⟨o, e, ex.1⟩, fun a e2 => ?_⟩
      cases e2
      exact ⟨o, e, ex.2.1⟩
  | _ => exact False.elim ty
def tBM (K : PySem.W.Frag) (T : String) (r : V → List V → Hp → VK → Prop) (to : TE) (t : TA) : TE := fun σ H Q => to σ H fun x H1 => tyV K T x H1 ∧ t σ H1 fun xs H2 => r x xs H2 Q
variable {o e : Expr} {es : List Expr} {to : TE} {t : TA} {name : Str} {apos cpos : Pos} {T id : String} {r : V → List V → Hp → VK → Prop}
theorem pe_bm (pa : PlainAttrs T) (slot : Slot T name id) (hty : typeOf (.builtin id) = pure (.type "method_descriptor")) (hm : MtR X id r) (ho : PE X o to) (ha : PA X (e :: es) t)
    (hbase : attributeBase o name X.env (eval o X.env) = eval o X.env := by rfl)
    (hfew : ((backTo cpos (starEach (e :: es) X.env)).all (fun x => !x.1) && (backToKw cpos (keywordEach [] X.env)).all (fun x => x.1.isSome)
      && decide ((e :: es).length + ([] : List Keyword).length + (if ([] : List Keyword).isEmpty then 0 else 1) < 30)) = true := by rfl)
    (hline : (apos.endLine == cpos.line) = true := by rfl) (hs : starEach (e :: es) X.env = (false, eval e X.env) :: starEach es X.env := by rfl) (hplain : (backTo cpos (starEach es X.env)).any (·.1) = false := by rfl) :
    PE X (.Call (.Attribute o name apos) (e :: es) [] cpos) (tBM X.K T r to t) := by
  intro pins s σ H Q I h
  refine wpAny_Call_method_late hbase hfew hline rfl (thn (ho pins s σ H _ I h) fun v s1 ⟨x, H1, I1, r1, ty, q1⟩ => ?_)
  obtain ⟨h1, h2⟩ := tyV_is I1 r1 ty
  refine ⟨T, id, pa, slot, hty, h1, h2, ?_⟩
  have hA := ha cpos pins s1 σ H1 _ I1 q1
  rw [hs] at hA ⊢
  refine Calls.callWith_builtin (by show (false || (backTo cpos (starEach es X.env)).any (·.1)) = false; rw [hplain] <;> rfl) (Calls.evalArgs_plain ?_)
  exact thn hA fun us s2 ⟨vs, H2, I2, r2, q2⟩ => hm pins s2 σ H2 x vs v us Q I2 r1 r2 q2
/- xs.append(e), list.index on a module's tuple .. are MtR facts of 06m -/
end
end L2
namespace L2
open PySem PySem.Spec PyProof.Rows
def MtM (X : Cx) (id : String) (r : V → List V → Hp → VK → Prop) : Prop :=
  ∀ (pins : List (Addr × Obj)) (s : Shared) (σ : St) (H : Hp) (x : V) (xs : List V) (v : Value) (us : List Value) (Q : VK), Inv X pins σ H s → RelV x v → Vals xs us → r x xs H Q →
    wpAny (model X.prog X.w) X.A (call (.builtin id) (v :: us)) (EP X pins σ Q) X.xe s
/-! ### lists of values -/
theorem Vals.one : ∀ {x : V} {us : List Value}, Vals [x] us → ∃ u, us = [u] ∧ RelV x u
  | _, _, .cons r .nil => ⟨_, rfl, r⟩
theorem Vals.rep {xs : List V} {us : List Value} (h : Vals xs us) : ∀ k : Nat, Vals (List.replicate k xs).flatten (List.replicate k us).flatten
  | 0 => .nil
  | k + 1 => by
    rw [List.replicate_succ, List.replicate_succ, List.flatten_cons, List.flatten_cons]
    exact Vals.append h (Vals.rep h k)
theorem foldl_rep (its : List Value) : ∀ (k : Nat) (acc : List Value),
    List.foldl (fun x1 x2 => x1 ++ x2) acc.toArray (List.replicate k its.toArray) = (acc ++ (List.replicate k its).flatten).toArray
  | 0, acc => by simp
  | k + 1, acc => by
    have e : acc.toArray ++ its.toArray = (acc ++ its).toArray := by simp
    have e2 : (acc ++ its) ++ (List.replicate k its).flatten = acc ++ (List.replicate (k + 1) its).flatten := by
      rw [List.replicate_succ, List.flatten_cons, List.append_assoc]
    rw [← e2, ← foldl_rep its k (acc ++ its), ← e, List.replicate_succ, List.foldl_cons]
section
variable {X : Cx} {pins : List (Addr × Obj)} {σ : St} {H : Hp} {s : Shared} {l b : Addr} {xs ys zs : List V}
/-! ### the two steps: a tracked list is rewritten, a new list is laid -/
theorem Inv.lset {its its' : List Value} {n : Nat} {f : Array Value → Array Value} {t' : Nat} (I : Inv X pins σ H s) (hH : H l = some (.lst xs))
    (e : s.heap.get? l = some { cls := .type "list", data := .seq its.toArray n }) (hf : f its.toArray = its'.toArray) (hv : Vals ys its') (hz : ys.length ≤ sizeLine) :
    Inv X pins σ (upd H l (.lst ys)) { s with heap := s.heap.update l (Obj.mapSeq f), toks := t' } := by
  have q := PySem.IsL.update e f
  rw [hf] at q
  refine I.write (x := l) (e := l) (by rw [hH]; exact trivial) (.inl rfl) (fun b' u hb hu => (Heap.get?_update_other s.heap (Obj.mapSeq f) (Ne.symm hb)).trans hu) ⟨_, q⟩ ?_
  exact ⟨hz, its', _, hv, q⟩
theorem Inv.lnew {its : List Value} {t' : Nat} (I : Inv X pins σ H s) (hv : Vals ys its) (hz : ys.length ≤ sizeLine) :
    Inv X pins σ (upd H s.heap.objs.size (.lst ys)) { s with heap := s.heap.push { cls := .type "list", data := .seq its.toArray }, toks := t' } :=
  I.laid (fun _ _ q => Heap.get?_push_of_some _ q) (Nat.le_refl _) ⟨hz, its, 0, hv, Heap.get?_push_size _ rfl⟩
theorem Inv.fresh (I : Inv X pins σ H s) : H s.heap.objs.size = none := I.hok.fresh (Nat.le_refl _)
theorem Inv.lstM (I : Inv X pins σ H s) (hH : H l = some (.lst xs)) : xs.length ≤ sizeLine ∧ ∃ (its : List Value) (n : Nat), Vals xs its ∧ xs.length = its.length ∧ s.heap.get? l = some { cls := .type "list", data := .seq its.toArray n } := by
  obtain ⟨z, its, n, r, e⟩ := I.hok l _ hH
  exact ⟨z, its, n, r, r.length, e⟩
theorem notLongL {n : Nat} (h : n ≤ sizeLine) : Builtin.List.listTooLong n = false := by
  unfold Builtin.List.listTooLong
  exact decide_eq_false (by (first | lia | omega))
end
section
variable {X : Cx}
/-! ### methods -/
def rAppend : V → List V → Hp → VK → Prop := fun x vs H Q => ∃ l xs y, x = .ref l ∧ vs = [y] ∧ H l = some (.lst xs) ∧ xs.length < sizeLine ∧ Q .non (upd H l (.lst (xs ++ [y])))
theorem mt_append : MtM X "list.append" rAppend := by
  intro pins s σ H x vs v us Q I rx rv h
  obtain ⟨l, xs, y, rfl, rfl, hH, hz, q⟩ := h
  cases rx
  obtain ⟨u, rfl, ru⟩ := rv.one
  obtain ⟨z, its, n, r, hl, e⟩ := I.lstM hH
  refine call_meets F.slot_list_append ⟨_, e, rfl⟩ F.entry_list_append (F.args_list_append_2 _ _) (PySem.list_append l its.toArray n u (by rw [List.size_toArray]; (first | lia | omega))) ⟨e, ?_⟩
  refine ⟨.non, _, I.lset (its' := its ++ [u]) hH e (by simp) (r.append (.cons ru .nil)) ?_, rfl, q⟩
  rw [List.length_append, List.length_singleton]
  (first | lia | omega)
def rExtend : V → List V → Hp → VK → Prop := fun x vs H Q => ∃ l b xs zs, x = .ref l ∧ vs = [.ref b] ∧ H l = some (.lst xs) ∧ H b = some (.lst zs) ∧ xs.length + zs.length ≤ sizeLine ∧ Q .non (upd H l (.lst (xs ++ zs)))
theorem mt_extend : MtM X "list.extend" rExtend := by
  intro pins s σ H x vs v us Q I rx rv h
  obtain ⟨l, b, xs, zs, rfl, rfl, hH, hB, hz, q⟩ := h
  cases rx
  obtain ⟨u, rfl, ru⟩ := rv.one
  cases ru
  obtain ⟨z, its, n, r, hl, e⟩ := I.lstM hH
  obtain ⟨z2, its2, n2, r2, hl2, e2⟩ := I.lstM hB
  have hsz : its.toArray.size + its2.toArray.size ≤ sizeLine := by rw [List.size_toArray, List.size_toArray]; (first | lia | omega)
  have hlong : ¬ (!its.toArray.isEmpty && Builtin.List.listTooLong (its.toArray.size + its2.toArray.size)) = true := by
    rw [notLongL hsz, Bool.and_false]
    exact Bool.false_ne_true
  refine call_meets F.slot_list_extend ⟨_, e, rfl⟩ F.entry_list_extend (F.args_list_extend_2 _ _)
    (AutoSeq1.list_extend_list_list_0 l its.toArray n b its2.toArray n2 hlong (by rw [List.size_toArray]; (first | lia | omega)) (by (first | lia | omega))) ⟨e, e2, ?_⟩
  refine ⟨.non, _, I.lset (its' := its ++ its2) hH e (by simp) (r.append r2) ?_, rfl, q⟩
  rw [List.length_append]
  (first | lia | omega)
/-! ### list + list, list += list, list * int -/
def rCat : R2 := fun x y H Q => ∃ l b xs zs, x = .ref l ∧ y = .ref b ∧ H l = some (.lst xs) ∧ H b = some (.lst zs) ∧ xs.length + zs.length ≤ sizeLine ∧ ∀ p, H p = none → Q (.ref p) (upd H p (.lst (xs ++ zs)))
theorem op_cat : OpR X (binaryOp .Add) rCat := by
  intro pins s σ H x y v u Q I rx ry h
  obtain ⟨l, b, xs, zs, rfl, rfl, hH, hB, hz, q⟩ := h
  cases rx
  cases ry
  obtain ⟨z, its, n, r, hl, e⟩ := I.lstM hH
  obtain ⟨z2, its2, n2, r2, hl2, e2⟩ := I.lstM hB
  refine PySem.P.add_list e e2 ?_ (by rw [List.size_toArray, List.size_toArray]; (first | lia | omega))
  have ea : its.toArray ++ its2.toArray = (its ++ its2).toArray := by simp
  rw [ea]
  exact ⟨.ref _, _, I.lnew (t' := s.toks) (r.append r2) (by rw [List.length_append]; (first | lia | omega)), rfl, q _ I.fresh⟩
/-- a list times an int (a negative one is nothing) -/
def rRep : R2 := fun x y H Q => ∃ l k xs, x = .ref l ∧ y = .int k ∧ H l = some (.lst xs) ∧ -(2 ^ 63) ≤ k ∧ k < 2 ^ 63 ∧ xs.length * k.toNat ≤ sizeLine ∧
  ∀ p, H p = none → Q (.ref p) (upd H p (.lst (List.replicate k.toNat xs).flatten))
theorem len_rep {α : Type} (xs : List α) (k : Nat) : (List.replicate k xs).flatten.length = k * xs.length := by
  induction k with
  | zero => simp
  | succ k ih => rw [List.replicate_succ, List.flatten_cons, List.length_append, ih, Nat.succ_mul, Nat.add_comm]
theorem op_rep : OpR X (binaryOp .Mult) rRep := by
  intro pins s σ H x y v u Q I rx ry h
  obtain ⟨l, k, xs, rfl, rfl, hH, h1, h2, hz, q⟩ := h
  cases rx
  obtain ⟨t, rfl⟩ := ry
  obtain ⟨z, its, n, r, hl, e⟩ := I.lstM hH
  have hlen : its.toArray.size * k.toNat ≤ sizeLine := by rw [List.size_toArray, ← hl]; exact hz
  have hcap : ¬ its.toArray.size * k.toNat > (2 ^ 63 - 1) / 8 := by
    have : (sizeLine : Nat) ≤ (2 ^ 63 - 1) / 8 := by decide
    (first | lia | omega)
  have hfit : ¬ (!Builtin.List.listFitsIndex k) = true := by
    rw [fitsIndex_both h1 h2]
    exact Bool.false_ne_true
  have hlong : ¬ Builtin.List.listTooLong (its.toArray.size * k.toNat) = true := by
    rw [notLongL hlen]
    exact Bool.false_ne_true
  have hnew : List.foldl (fun x1 x2 => x1 ++ x2) #[] (List.replicate (if its.toArray.isEmpty = true then 0 else k.toNat) its.toArray) = (List.replicate k.toNat its).flatten.toArray := by
    have f0 : ∀ m : Nat, List.foldl (fun x1 x2 => x1 ++ x2) #[] (List.replicate m its.toArray) = (List.replicate m its).flatten.toArray := fun m => by
      have := foldl_rep its m []
      rw [List.nil_append] at this
      exact this
    rw [f0]
    cases its with
    | nil => simp
    | cons a r' => rw [if_neg (by simp)]
  refine wpAny_binaryOp_repeat_ref (T := "list") (U := "int") (by decide) ⟨_, e, rfl⟩ (fun s' => typeIs_int s' k t) noFill_list_mul F.fills_int_mul F.slot_int_rmul repeat_list F.slot_int_index.lookup
    (call_meets F.slot_int_rmul (typeIs_int s k t) F.entry_int_rmul (F.args_int_rmul_2 _ _) (int___rmul___int_list k t l its.toArray n)
      ⟨e, rfl, ⟨_, e, rfl⟩, call_meets F.slot_list_mul ⟨_, e, rfl⟩ F.entry_list_mul (F.args_list_mul_2 _ _) (AutoListH.list___mul___list_int_3 l its.toArray n k t hfit hcap hlong) ⟨e, ?_⟩⟩)
  rw [hnew]
  exact ⟨.ref _, _, I.lnew (t' := s.toks) (r.rep k.toNat) (by rw [len_rep, Nat.mul_comm]; exact hz), rfl, q _ I.fresh⟩
end
/-! ### xs[a:b] = ys -/
section
variable {prog : Program} {w : World} {A : Around} {E : Value → Shared → Prop} {s : Shared}
end
section
variable {X : Cx}
end
end L2
namespace Att
open PySem PySem.W PySem.Calls PyProof.Rows
/-! ### the script -/
theorem ints_of_wellAll {P : Params} {h : Heap} : ∀ (ns : List Int) (vs : List Value), WellAll P h vs (ns.map WData.int) → IntsAre vs ns := by
  intro ns
  induction ns with
  | nil =>
    intro vs w
    rw [List.map_nil] at w
    cases w
    exact .nil
  | cons n ns ih =>
    intro vs w
    rw [List.map_cons] at w
    cases w with
    | cons a b =>
      cases a
      exact .cons _ _ (ih _ b)
theorem script_of {l : OpenLaw} {n : Nat} (hn : l.most = some n) {P : Params} {h : Heap} {args : List WData} {vals : List Value}
    (hpre : l.row.toRowW.claim.pre args = true) (hwl : WellAll P h vals args) :
    ∃ a vs ns, vals = [Value.ref a] ∧ args = [WData.list (ns.map WData.int)] ∧ h.get? a = some { cls := .type "list", data := .seq vs.toArray } ∧ IntsAre vs ns ∧ ns.length ≤ n := by
  have hsh : WShape.hasAll [] args [.list .int] = true := (pre_splitW hpre).1
  have hc : l.pre.holds [] { args := args } = true := (pre_splitW hpre).2
  obtain ⟨d, r, rfl, h1, h2⟩ := hasAllW_cons hsh
  obtain rfl := hasAllW_nil h2
  obtain ⟨xs, rfl, h3⟩ := hasW_list h1
  obtain ⟨ns, rfl⟩ := items_int h3
  have hlen : ns.length ≤ n := by
    unfold OpenLaw.pre at hc
    have h4 : (WTm.not (.lt (.lit (.int (n : Int))) (.len (.arg 0)))).holds [] { args := [.list (ns.map .int)] } = true := by
      have h4 := (holds_andW hc).1
      rw [hn] at h4
      exact h4
    have h5 := condW_of h4 (w_not (w_lt w_lit (w_len_list (w_arg rfl))))
    rw [List.length_map] at h5
    refine Nat.le_of_not_lt fun q => ?_
    have q' : (n : Int) < ((ns.length : Nat) : Int) := by (first | lia | omega)
    first
      | (rw [decide_eq_true q'] at h5; exact absurd h5 (by decide))
      | (simp at h5; (first | lia | omega))
  cases hwl with
  | cons w1 w2 =>
    cases w2
    cases w1 with
    | list ho hall => exact ⟨_, _, ns, rfl, rfl, ho, ints_of_wellAll ns _ hall, hlen⟩
theorem post_true (l : OpenLaw) (args : List WData) : l.row.toRowW.claim.post args (.bool true) args = true :=
  postW_of (r := l.row.toRowW) (X := (true == true))
    (show WShape.has [] (.bool true) .bool = true by first | rfl | decide | simp [WShape.has, WShape.arms, WShape.armsAll])
    (show (WTm.eq .res (.lit (.bool true))).value [] { args := args, res := some (.bool true), after := args } = some (.bool (true == true)) from w_eq_bool (w_res rfl) w_lit) rfl
/-- the same from a codeAny of the CALL (for a layer whose function contracts speak of calls) -/
theorem attach_call {l : OpenLaw} {n : Nat} {q : Program} {loose : List Str} {XP : (Str → Option Value) → Heap → Prop} {YP : World → Heap → Prop} {d : DefRec}
    (hn : l.most = some n) (hdf : d.params.defaults = [])
    (call : ∀ (w : World) (s₀ s₁ : Shared) (mg mb : Str → Option Value) (fa : Addr) (o : Obj) (pm cd doc : Value) (a : Addr) (vs : List Value) (ns : List Int),
      Ground q loose [] XP w s₀ mg mb s₁.heap → YP w s₁.heap →
      s₁.heap.get? fa = some o → o.data = .func (docDef d.name d.params d.body d.scope pm cd doc) → s₁.heap.CodeRec cd d.name → mg d.name = some (.ref fa) →
      s₁.heap.get? a = some { cls := .type "list", data := .seq vs.toArray } → IntsAre vs ns → ns.length ≤ n → s₁.gens = #[] →
      codeAny (model l.prog w) callerA (.call (.ref fa) ⟨[.ref a], []⟩) (fun r s' => r = .ok (.ret (.bool true)) ∧ OldK s₁.heap s'.heap ∧ s'.os = s₁.os ∧ AllBare s'.gens) s₁) :
    WalkO q loose XP YP l.row.toRowW d [] (fun f vs => PySem.call f vs) := by
  intro w s₀ s₁ mg mb G Y fa o pm cd doc dV kV ho hd hcd hD hmg hg args vals as hpre hlay hrd hwl hlo
  obtain rfl : dV = .none := Dflts.none hD hdf
  obtain rfl : kV = .none := Dflts.noKw hD
  obtain ⟨a, vs, ns, rfl, rfl, hobj, hints, hlen⟩ := script_of hn hpre hwl
  refine enter_call (codeAny_mono (call w s₀ s₁ mg mb fa o pm cd doc a vs ns G Y ho (fd_plain hd) hcd hmg hobj hints hlen hg) fun r s' hq => ?_)
  obtain ⟨rfl, h2, h3, h4⟩ := hq
  exact ⟨.inl ⟨.bool true, .bool true, [], rfl, fun _ => rfl, .bool true, post_true l _, fun _ => ⟨List.Pairwise.nil, fun _ hm => (nomatch hm)⟩⟩, h2, h3, h4⟩
/-! ### rules over ANY heap (no ledger) from facts about the written part K: the library's own take a ledger (News) for what they write -/
section
variable {prog : Program} {w : World} {A : Around} {E : Value → Shared → Prop} {s : Shared} {K : Frag}
end
end Att
namespace L2
open PySem PySem.Spec PyProof.Rows
theorem vals_ints : ∀ {vs : List Value} {ns : List Int}, IntsAre vs ns → Vals (ns.map V.int) vs
  | _, _, .nil => .nil
  | _, _, .cons n t h => .cons ⟨t, rfl⟩ (vals_ints h)
/-- nothing is tracked but the script, known to the object (or it is an object of the module) -/
def Only (H : Hp) : Prop := ∀ b, H b = none ∨ ∃ o xs, H b = some (.frz o (.lst xs))
/-- THE HEAD: the law's promise, at the heap behind the top. F, the promise of the law's def, may use that base is part of the heap (so K.In base, base.Ns mainGlobals mg stand in Mod) -/
theorem law_call {P : Program} {w : World} {K : PySem.W.Frag} {mg mb : Str → Option Value} {CX : CXT} {k : Nat} {fa a : Addr} {fd : FuncData} {x : Str} {sp : Sp} {s₁ : Shared} {vs : List Value} {ns : List Int}
    (KX : K.In s₁.heap) (hns : s₁.heap.Ns mainGlobals mg) (hb : s₁.heap.Ns builtinsNs mb) (hbb : ∀ x : Str, x ≠ "__name__" → mb x = bootBuiltins x) (hlim : s₁.heap.NoLimit) (hg : s₁.gens = #[])
    (ha : s₁.heap.get? a = some { cls := .type "list", data := .seq vs.toArray }) (hi : IntsAre vs ns) (hl : ns.length ≤ sizeLine) (hr : Room k callerA)
    (F : ∀ base : Heap, K.In base → base.Ns mainGlobals mg → FnOk P w K mg base CX k fa fd [x] sp) (hbind : ∀ (s : Shared) (u : Value), BindsTo s fd ⟨[u], []⟩ [(x, u)])
    (hsp : ∀ H : Hp, Only H → SqL K H a (ns.map V.int) → sp [.ref a] H (fun v _ => v = .bl true) fun _ _ _ => False)
    (hCX : ∀ H e s', CX [] H s₁ (fun _ _ _ => False) e s' → False) :
    codeAny (model P w) callerA (.call (.ref fa) ⟨[.ref a], []⟩) (fun r s' => r = .ok (.ret (.bool true)) ∧ OldK s₁.heap s'.heap ∧ s'.os = s₁.os ∧ AllBare s'.gens) s₁ := by
  have rv := vals_ints hi
  have lenV := hi.length
  -- from an abstract heap in which nothing but the script may be tracked
  have core : ∀ H : Hp, Only H → SqL K H a (ns.map V.int) → HOk P w H s₁.heap → (∀ b, H b ≠ none → b = a) → (H a ≠ none → K.lookup a = none) →
      codeAny (model P w) callerA (.call (.ref fa) ⟨[.ref a], []⟩) (fun r s' => r = .ok (.ret (.bool true)) ∧ OldK s₁.heap s'.heap ∧ s'.os = s₁.os ∧ AllBare s'.gens) s₁ := by
    intro H hO hS hok hA hK
    have base_of : ∀ {b : Addr} {o : Obj}, s₁.heap.get? b = some o → H b = none → (hidT s₁.heap H).get? b = some o := fun e n => hidT_get e n
    have noA : ∀ {b : Addr} {o : Obj} {es : Array DictEntry} {ep : Nat}, s₁.heap.get? b = some o → o.data = .dict es ep → H b = none := fun {b o es ep} e d => by
      cases q : H b with
      | none => rfl
      | some u =>
        have e' : b = a := hA b (by rw [q]; simp)
        subst e'
        rw [ha] at e; cases e
        have d' : Data.seq vs.toArray _ = Data.dict es ep := d
        cases d'
    have nsK : ∀ {b : Addr} {m : Str → Option Value}, s₁.heap.Ns b m → (hidT s₁.heap H).Ns b m := fun {b m} ⟨o, es, ep, e, d, r⟩ => ⟨o, es, ep, base_of e (noA e d), d, r⟩
    have hKb : K.In (hidT s₁.heap H) := fun b o e => base_of (KX b o e) (by
      cases q : H b with
      | none => rfl
      | some u =>
        have e' : b = a := hA b (by rw [q]; simp)
        subst e'
        rw [hK (by rw [q]; simp)] at e; cases e)
    have hM : Mod K mg (hidT s₁.heap H) := ⟨hKb, nsK hns, ⟨mb, nsK hb, hbb⟩, let ⟨mc, h1, h2⟩ := hlim; ⟨mc, nsK h1, h2⟩⟩
    have e0 : Env0 P w K mg (hidT s₁.heap H) callerA [] s₁ H := ⟨rfl, hM, fun b o e => of_hidT e, Nat.le_of_eq (hidT_size _ _), trivial, fun b hb => absurd (show b ∈ ([] : List Addr) from hb) (by simp), hok, .of_eq hg⟩
    refine codeAny_mono ((F _ hKb (nsK hns)).run callerA [] s₁ H ⟨[.ref a], []⟩ [.ref a] [.ref a] _ _ hr e0 (hbind s₁ (.ref a)) (.cons rfl .nil) (hsp H hO hS)) fun r s' h => ?_
    cases r with
    | error e => exact (hCX H e s' h).elim
    | ok fl =>
      cases fl with
      | next => exact False.elim h
      | brk => exact False.elim h
      | cont => exact False.elim h
      | ret u =>
        obtain ⟨v, H', os, bare, un, hok', r', q⟩ := h
        have q' : v = .bl true := q
        subst q'
        obtain rfl : u = Value.bool true := r'
        refine ⟨rfl, OldK.of_keep fun b o e => ?_, os, bare⟩
        cases q : H b with
        | none => exact un.keep b o e q (by intro z; exact absurd (show b ∈ ([] : List Addr) from z) (by simp)) (by simp)
        | some u =>
          rcases hO b with z | ⟨ob, xs, z⟩
          · rw [q] at z; cases z
          · have z2 := un.frzs b ob _ z
            obtain ⟨e1, _⟩ := hok b _ z
            obtain ⟨e2, _⟩ := hok' b _ z2
            rw [e] at e1; cases e1
            exact e2
  cases hk : K.lookup a with
  | some o =>
    -- the script is one of the module's own objects
    have e := KX a o hk
    rw [ha] at e
    cases e
    refine core (fun _ => none) (fun _ => .inl rfl) (.inr ⟨_, vs.toArray, _, hk, rfl, rfl, rfl, by rw [List.size_toArray, lenV]; exact hl, by simpa using rv⟩) (fun b u z => by have z' : (none : Option HO) = some u := z; cases z') (fun b z => absurd rfl z) fun z => absurd rfl z
  | none =>
    refine core (fun b => if b = a then some (.frz { cls := .type "list", data := .seq vs.toArray } (.lst (ns.map V.int))) else none) (fun b => ?_) (.inl (.inr ⟨{ cls := .type "list", data := .seq vs.toArray }, if_pos rfl⟩)) (fun b u z => ?_) (fun b z => ?_) fun _ => hk
    · by_cases hb : b = a
      · exact .inr ⟨_, _, if_pos hb⟩
      · exact .inl (if_neg hb)
    · by_cases hb : b = a
      · have z' := (if_pos hb).symm.trans z
        cases z'
        subst hb
        exact ⟨ha, by rw [List.length_map]; exact hl, vs, _, rv, ha⟩
      · have z' := (if_neg hb).symm.trans z
        cases z'
    · by_cases hb : b = a
      · exact hb
      · exact absurd (if_neg hb) z
end L2
namespace L2
open PySem PySem.Spec PyProof.Rows
/-- the goal that k_head leaves (case hc), from the law's promise. F gives the function object fd (K's own) once, then the promise over every base -/
theorem walk_of {l : PySem.W.OpenLaw} {n k : Nat} {q : Program} {loose : List Str} {XP : (Str → Option Value) → Heap → Prop} {YP : World → Heap → Prop} {d : DefRec} {K : Params → PySem.W.Frag} {CX : World → CXT} {sp : World → Sp} {x : Str}
    (hn : l.most = some n) (hn2 : n ≤ sizeLine) (hdf : d.params.defaults = []) (hr : Room k callerA)
    (hY : ∀ (w : World) (h : Heap), YP w h → (K w.params).In h)
    (F : ∀ (w : World) (mg : Str → Option Value) (fa : Addr) (h : Heap), (K w.params).In h → h.Ns mainGlobals mg → mg d.name = some (.ref fa) →
      ∃ fd : FuncData, (∀ (s : Shared) (u : Value), BindsTo s fd ⟨[u], []⟩ [(x, u)]) ∧
        ∀ base : Heap, (K w.params).In base → base.Ns mainGlobals mg → FnOk l.prog w (K w.params) mg base (CX w) k fa fd [x] (sp w))
    (hsp : ∀ (w : World) (H : Hp) (a : Addr) (ns : List Int), ns.length ≤ n → Only H → SqL (K w.params) H a (ns.map V.int) → sp w [.ref a] H (fun v _ => v = .bl true) fun _ _ _ => False)
    (hCX : ∀ (w : World) (H : Hp) (s : Shared) (e : Value) (s' : Shared), CX w [] H s (fun _ _ _ => False) e s' → False) :
    PySem.W.WalkO q loose XP YP l.row.toRowW d [] (fun f vs => PySem.call f vs) := by
  refine Att.attach_call hn hdf fun w s₀ s₁ mg mb fa o pm cd doc a vs ns G Y ho hd hcd hmg hobj hints hlen hg => ?_
  have KX := hY w _ Y
  obtain ⟨fd, hb, hF⟩ := F w mg fa _ KX G.T.g hmg
  exact law_call KX G.T.g G.T.b G.T.builtins G.T.nolimit hg hobj hints (Nat.le_trans hlen hn2) hr hF hb (fun H hO hS => hsp w H a ns hlen hO hS) fun H e s' => hCX w H s₁ e s'
/-- the same where the promise hangs on the written part alone: (sp := My.sp_law), no hole under a binder -/
theorem walk_ofK {l : PySem.W.OpenLaw} {n k : Nat} {q : Program} {loose : List Str} {XP : (Str → Option Value) → Heap → Prop} {YP : World → Heap → Prop} {d : DefRec} {K : Params → PySem.W.Frag} {CX : CXT} {sp : PySem.W.Frag → Sp} {x : Str}
    (hn : l.most = some n) (hn2 : n ≤ sizeLine) (hdf : d.params.defaults = []) (hr : Room k callerA)
    (hY : ∀ (w : World) (h : Heap), YP w h → (K w.params).In h)
    (F : ∀ (w : World) (mg : Str → Option Value) (fa : Addr) (h : Heap), (K w.params).In h → h.Ns mainGlobals mg → mg d.name = some (.ref fa) →
      ∃ fd : FuncData, (∀ (s : Shared) (u : Value), BindsTo s fd ⟨[u], []⟩ [(x, u)]) ∧
        ∀ base : Heap, (K w.params).In base → base.Ns mainGlobals mg → FnOk l.prog w (K w.params) mg base CX k fa fd [x] (sp (K w.params)))
    (hsp : ∀ (K : PySem.W.Frag) (H : Hp) (a : Addr) (ns : List Int), ns.length ≤ n → Only H → SqL K H a (ns.map V.int) → sp K [.ref a] H (fun v _ => v = .bl true) fun _ _ _ => False)
    (hCX : ∀ (H : Hp) (s : Shared) (e : Value) (s' : Shared), CX [] H s (fun _ _ _ => False) e s' → False) :
    PySem.W.WalkO q loose XP YP l.row.toRowW d [] (fun f vs => PySem.call f vs) :=
  walk_of (K := K) (CX := fun _ => CX) (sp := fun w => sp (K w.params)) hn hn2 hdf hr hY F (fun w H a ns h1 h2 h3 => hsp (K w.params) H a ns h1 h2 h3) fun _ H s e s' => hCX H s e s'
end L2
/- THE LAST THEOREM (shape; LID, My.* are yours):
   My.Adr: a structure of the addresses that your layer names (classes, functions); My.Txt K t: a structure (Prop) of the equations over K;
   My.txt_mk : {K} {implicit addresses ..} (e1 : nsIn K mainGlobals "law" = some (some (.ref f))) (e2 : K.lookup f = some ⟨oc, od, .func (fnOf "law" "law" params body scope dV kV doc pm an cdv ct), sl⟩) (e3 : codeIn K cdv "law" = true) .. : ∃ t, My.Txt K t
set_option maxRecDepth 100000 in
set_option maxHeartbeats 0 in
theorem PySem.Challenge.cw_LID_holds : PySem.Challenge.rw_LID.Holds := by
  w_on; o_law; k_head; (case hw => w_witness2)
  k_fill
  refine L2.walk_of (l := PySem.Challenge.rw_LID) (n := 63) (k := 40) (x := "script") (CX := fun w => ..) (sp := fun _ => My.sp_law) rfl (by decide) rfl ⟨rfl, by decide, by decide⟩ (fun w h Y => PySem.W.kIn_of Y) ?F ?S ?C
  case F =>
    intro w mg fa h KX G hmg
    have T : ∃ t, My.Txt (L2.KOf KX) t := by
      dsimp only [L2.KOf]                          -- K must stand as «<heap const> w.params» for k_is
      refine' My.txt_mk ?e1 ?e2 ?e3 ..
      (case e1 => PySem.W.k_is)                    -- in the order: a name -> its address -> its object -> its parts
      (case e2 => PySem.W.k_is)
      ..
    obtain ⟨t, T⟩ := T
    have e0 := hmg.symm.trans (PySem.W.mg_of KX G T.law)
    cases e0                                       -- fa is the law's own address
    exact ⟨_, fun s u => .of_eq rfl, fun base kb nb => My.law_fn T kb nb⟩     -- if «.of_eq rfl» comes too early: refine' ⟨_, ?b, fun base kb nb => My.law_fn T kb nb⟩; exact fun s u => .of_eq rfl
  case S => exact fun w H a ns hl hO hS => ..
  case C => exact ..
(the tactic k_is has no namespace: write k_is) -/
/-! SHORT WORDS over the layer: a def of the text, its body, what a loop and a test want. -/
namespace L2
open PySem PySem.Spec PyProof.Rows
def defArgs (s : Stmt) : Arguments := match s with
  | .FunctionDef _ a _ _ _ _ _ _ _ _ => a
  | _ => { posonlyargs := [], args := [], vararg := none, kwonlyargs := [], kw_defaults := [], kwarg := none, defaults := [] }
def defBody (s : Stmt) : List Stmt := match s with
  | .FunctionDef _ _ b _ _ _ _ _ _ _ => b
  | _ => []
def defScope (s : Stmt) : Scope := match s with
  | .FunctionDef _ _ _ _ _ _ sc _ _ _ => sc
  | _ => { kind := .function, names := [], isGenerator := false, isCoroutine := false }
/-! ### no exception leaves a def -/
abbrev CX0 : CXT := fun _ _ _ _ _ _ => False
abbrev E0 : XK := fun _ _ _ => False
theorem pass0 {X : Cx} : Passes CX0 X E0 := fun _ _ _ _ _ _ _ h => h.elim
/-! ### a def (or method) of the text as it stands behind the top -/
structure Fun (K : PySem.W.Frag) (x qual : Str) (st : Stmt) (f : Addr) (fd : FuncData) : Prop where
  ex : ∃ (oc : Value) (od : Option Addr) (kV doc pm : Value) (an : Option Addr) (cdv ct : Value) (osl : Array (Option Value)),
    fd = PySem.W.fnOf x qual (defArgs st) (defBody st) (defScope st) .none kV doc pm an cdv ct ∧ K.lookup f = some ⟨oc, od, .func fd, osl⟩ ∧ PySem.W.codeIn K cdv qual = true
  kp : PySem.W.keepIn K (.ref f) = true
section
variable {P : Program} {w : World} {K : PySem.W.Frag} {mg : Str → Option Value} {base : Heap}
/-- THE RULE for a def: its body as a term of rules, and the reading of that term -/
theorem Fun.ok {x qual : Str} {st : Stmt} {f : Addr} {fd : FuncData} {N ps : List Str} {k : Nat} {sp : Sp} (F : Fun K x qual st f fd) (S : FnScope N ps (defScope st)) (len : ∀ vs H Q E, sp vs H Q E → vs.length = ps.length)
    (hbody : ∀ (cdv : Value) (A : Around) (outer : List Env) (s : Shared) (H : Hp) (vs : List V) (Q : VK) (E : XK), Room k (A.deeper (envOfC qual (defScope st) s.heap.objs.size f cdv)) → sp vs H Q E →
      ∃ t, PSs (cxOf CX0 P w K mg base N qual (defScope st) f cdv A outer s H E).nox (defBody st) t ∧ t { nx := fun _ H' => Q .non H', rt := Q } (start N vs) H) : FnOk P w K mg base CX0 (k + 1) f fd ps sp := by
  obtain ⟨oc, od, kV, doc, pm, an, cdv, ct, osl, rfl, lk, hcd⟩ := F.ex
  refine fn_of lk hcd S len fun A outer s H vs Q E hr hsp => ?_
  obtain ⟨t, h, q⟩ := hbody cdv A outer s H vs Q E hr hsp
  exact ⟨t, h.nox, q⟩
/-- how its arguments bind (no defaults): h is «fun _ _ _ _ _ _ us hl => match us, hl with | [_, _], _ => rfl», one _ a parameter -/
theorem Fun.binds {x qual : Str} {st : Stmt} {f : Addr} {fd : FuncData} {ps : List Str} (F : Fun K x qual st f fd)
    (h : ∀ (kV doc pm : Value) (an : Option Addr) (cdv ct : Value) (us : List Value), us.length = ps.length → bindArgs (PySem.W.fnOf x qual (defArgs st) (defBody st) (defScope st) .none kV doc pm an cdv ct) ⟨us, []⟩ = pure (ps.zip us)) : Binds K fd ps [] := by
  obtain ⟨oc, od, kV, doc, pm, an, cdv, ct, osl, rfl, lk, hcd⟩ := F.ex
  exact .all (h kV doc pm an cdv ct)
theorem fun_mk {x qual : Str} {st : Stmt} {f : Addr} {oc : Value} {od an : Option Addr} {osl : Array (Option Value)} {kV doc pm cdv ct : Value} (l : K.lookup f = some ⟨oc, od, .func (PySem.W.fnOf x qual (defArgs st) (defBody st) (defScope st) .none kV doc pm an cdv ct), osl⟩)
    (c : PySem.W.codeIn K cdv qual = true) (k : PySem.W.keepIn K (.ref f) = true) : Fun K x qual st f (PySem.W.fnOf x qual (defArgs st) (defBody st) (defScope st) .none kV doc pm an cdv ct) := ⟨⟨oc, od, kV, doc, pm, an, cdv, ct, osl, rfl, l, c⟩, k⟩
end
theorem small1000 {n : Nat} (h : n ≤ 1000) : n < sizeLine := Nat.lt_of_le_of_lt h (by decide)
/-! ### expressions in short: the name that stands in the i-th slot -/
section
variable {X : Cx}
theorem pv (i : Nat) {x : Str} {pos : Pos} (hN : X.N[i]? = some x := by rfl) (hv : Vis X.env.scope x := by first | exact Or.inl rfl | exact Or.inr (Or.inl rfl) | exact Or.inr (Or.inr rfl)) (hd : (x == ("__debug__" : Str)) = false := by decide)
    (hcd : (x == ("__classdict__" : Str)) = false := by decide) : PE X (.Name x pos) (tVar i) := pe_var hN hv hd hcd
end
/-! ### tests -/
theorem iteF {A B : Prop} (h : B) : if false = true then A else B := by
  rw [if_neg Bool.false_ne_true]
  exact h
theorem iteT {A B : Prop} (h : A) : if true = true then A else B := by
  rw [if_pos rfl]
  exact h
theorem ite2 {c A B : Prop} [Decidable c] (h1 : c → A) (h2 : ¬ c → B) : if c then A else B := by
  by_cases h : c
  · rw [if_pos h]
    exact h1 h
  · rw [if_neg h]
    exact h2 h
/-! ### heaps -/
/-- all that was tracked is as it was -/
def Same (H H' : Hp) : Prop := ∀ b o, H b = some o → H' b = some o
theorem Same.refl (H : Hp) : Same H H := fun _ _ h => h
theorem Same.trans {H H1 H2 : Hp} (a : Same H H1) (b : Same H1 H2) : Same H H2 := fun c o h => b c o (a c o h)
theorem Same.free {H H' : Hp} (e : Same H H') {l : Addr} (h : H' l = Option.none) : H l = Option.none := by
  cases q : H l with
  | none => rfl
  | some o =>
    rw [e l o q] at h
    cases h
end L2
set_option Elab.async false
set_option linter.all false
set_option maxRecDepth 100000
namespace L2
open PySem PySem.Spec PyProof.Rows
/-! ### lists of pairs as tables -/
section
variable {κ : Type} [DecidableEq κ]
def valV (kvs : List (κ × V)) (k : κ) : Option V := (kvs.find? fun kv => decide (kv.1 = k)).map (·.2)
/-- in its place, or at the end -/
def putK (kvs : List (κ × V)) (k : κ) (v : V) : List (κ × V) :=
  if (kvs.any fun kv => decide (kv.1 = k)) = true then kvs.map (fun kv => if kv.1 = k then (kv.1, v) else kv) else kvs ++ [(k, v)]
theorem valV_pos {p : κ × V} {r : List (κ × V)} {k : κ} (e : p.1 = k) : valV (p :: r) k = some p.2 := by simp [valV, List.find?_cons, e]
theorem valV_neg {p : κ × V} {r : List (κ × V)} {k : κ} (e : ¬ p.1 = k) : valV (p :: r) k = valV r k := by simp [valV, List.find?_cons, e]
theorem valV_any (k : κ) : ∀ kvs : List (κ × V), (kvs.any fun kv => decide (kv.1 = k)) = (valV kvs k).isSome
  | [] => rfl
  | p :: r => by
    rw [List.any_cons]
    by_cases e : p.1 = k
    · simp only [valV_pos e, decide_eq_true e, Bool.true_or, Option.isSome_some]
    · rw [valV_neg e, decide_eq_false e, Bool.false_or]; exact valV_any k r
theorem length_putK (kvs : List (κ × V)) (k : κ) (v : V) : (putK kvs k v).length ≤ kvs.length + 1 := by
  unfold putK
  split
  · rw [List.length_map]; (first | lia | omega)
  · rw [List.length_append, List.length_cons, List.length_nil]; (first | lia | omega)
theorem RelO.isSome_eq {o : Option V} {u : Option Value} (r : RelO o u) : o.isSome = u.isSome := by
  cases o with
  | none => cases u with
    | none => rfl
    | some _ => exact (show False from r).elim
  | some _ => cases u with
    | none => exact (show False from r).elim
    | some _ => rfl
/-- raw tables of the same keys -/
theorem KV.val {kvs : List (κ × V)} {vs : List (κ × Value)} (r : KV kvs vs) (k : κ) : RelO (valV kvs k) (valueAt vs k) := by
  unfold KV at r
  induction r with
  | nil => exact True.intro
  | @cons p q ps qs h t ih =>
    obtain ⟨h1, h2⟩ := h
    by_cases e : p.1 = k
    · have e' : q.1 = k := h1.symm.trans e
      have b : valueAt (q :: qs) k = some q.2 := by simp [valueAt, List.find?_cons, e']
      rw [valV_pos e, b]; exact h2
    · have e' : ¬ q.1 = k := fun z => e (h1.trans z)
      have b : valueAt (q :: qs) k = valueAt qs k := by simp [valueAt, List.find?_cons, e']
      rw [valV_neg e, b]; exact ih
theorem KV.any {kvs : List (κ × V)} {vs : List (κ × Value)} (r : KV kvs vs) (k : κ) : (kvs.any fun kv => decide (kv.1 = k)) = vs.any fun kv => decide (kv.1 = k) := by
  unfold KV at r
  induction r with
  | nil => rfl
  | cons h t ih => rw [List.any_cons, List.any_cons, ih, h.1]
theorem KV.repl {kvs : List (κ × V)} {vs : List (κ × Value)} (r : KV kvs vs) (k : κ) {y : V} {u : Value} (ry : RelV y u) :
    KV (kvs.map fun kv => if kv.1 = k then (kv.1, y) else kv) (vs.map fun kv => if kv.1 = k then (kv.1, u) else kv) := by
  unfold KV at r ⊢
  induction r with
  | nil => exact .nil
  | @cons p q ps qs h t ih =>
    rw [List.map_cons, List.map_cons]
    refine .cons ?_ ih
    obtain ⟨h1, h2⟩ := h
    by_cases e : p.1 = k
    · rw [if_pos e, if_pos (h1.symm.trans e)]; exact ⟨h1, ry⟩
    · rw [if_neg e, if_neg (fun z => e (h1.trans z))]; exact ⟨h1, h2⟩
theorem KV.put {kvs : List (κ × V)} {vs : List (κ × Value)} (r : KV kvs vs) (k : κ) {y : V} {u : Value} (ry : RelV y u) : KV (putK kvs k y) (stored vs k u) := by
  unfold putK stored
  rw [r.any k]
  by_cases e : (vs.any fun kv => decide (kv.1 = k)) = true
  · rw [if_pos e, if_pos e]; exact r.repl k ry
  · rw [if_neg e, if_neg e]; exact Paired.snoc r ⟨rfl, ry⟩
theorem KV.length {kvs : List (κ × V)} {vs : List (κ × Value)} (r : KV kvs vs) : kvs.length = vs.length := Paired.length r
end
/-! ### a tracked dict, its keys ints and texts or tuples of these -/
theorem kV_is {P : Program} {w : World} {k : Key} {u : Value} (r : RelV (kV k) u) : (mixKind P w).is k u = true := by
  cases k with
  | inl i => obtain ⟨t, e⟩ := (show ∃ t, u = Value.int i t from r); subst e; exact mixKind_int P w i t
  | inr x => obtain ⟨t, e⟩ := (show ∃ t, u = Value.str x t from r); subst e; exact mixKind_str P w x t
theorem items_are {P : Program} {w : World} : ∀ {ks : List Key} {us : List Value}, Vals (ks.map kV) us → ItemsAre (mixKind P w) ks us
  | [], _, r => by rw [List.map_nil] at r; cases r; exact .nil
  | k :: ks, _, r => by
    rw [List.map_cons] at r
    cases r with
    | cons h t => exact .cons (kV_is h) (items_are t)
/-- raw entries of a dict with tuple keys -/
abbrev KT (H : Hp) : List (List Key × V) → List (List Key × Addr × Value) → Prop := Paired fun p q => p.1 = q.1 ∧ H q.2.1 = some (.tup (p.1.map kV)) ∧ RelV p.2 q.2.2
theorem KT.val {H : Hp} {kvs : List (List Key × V)} {xs : List (List Key × Addr × Value)} (r : KT H kvs xs) (k : List Key) : RelO (valV kvs k) ((atKey xs k).map (·.2)) := by
  induction r with
  | nil => exact True.intro
  | @cons p q ps qs h t ih =>
    obtain ⟨h1, _, h2⟩ := h
    by_cases e : p.1 = k
    · have e' : q.1 = k := h1.symm.trans e
      have b : atKey (q :: qs) k = some q.2 := by simp [atKey, List.find?_cons, e']
      rw [valV_pos e, b]; exact h2
    · have e' : ¬ q.1 = k := fun z => e (h1.trans z)
      have b : atKey (q :: qs) k = atKey qs k := by simp [atKey, List.find?_cons, e']
      rw [valV_neg e, b]; exact ih
theorem KT.repl {H : Hp} {kvs : List (List Key × V)} {xs : List (List Key × Addr × Value)} (r : KT H kvs xs) (k : List Key) {y : V} {u : Value} (ry : RelV y u) :
    KT H (kvs.map fun kv => if kv.1 = k then (kv.1, y) else kv) (xs.map (putAt k u)) := by
  induction r with
  | nil => exact .nil
  | @cons p q ps qs h t ih =>
    rw [List.map_cons, List.map_cons]
    refine .cons ?_ ih
    obtain ⟨h1, h2, h3⟩ := h
    unfold putAt
    by_cases e : p.1 = k
    · rw [if_pos e, if_pos (h1.symm.trans e)]; exact ⟨h1, h2, ry⟩
    · rw [if_neg e, if_neg (fun z => e (h1.trans z))]; exact ⟨h1, h2, h3⟩
theorem KT.put {H : Hp} {kvs : List (List Key × V)} {xs : List (List Key × Addr × Value)} (r : KT H kvs xs) (k : List Key) {b : Addr} {y : V} {u : Value} (hb : H b = some (.tup (k.map kV))) (ry : RelV y u) :
    KT H (putK kvs k y) (storedH xs k b u) := by
  have e : (kvs.any fun kv => decide (kv.1 = k)) = (atKey xs k).isSome := by
    rw [valV_any, (r.val k).isSome_eq, Option.isSome_map]
  unfold putK storedH
  rw [e]
  by_cases q : (atKey xs k).isSome = true
  · rw [if_pos q, if_pos q]; exact r.repl k ry
  · rw [if_neg q, if_neg q]; exact Paired.snoc r ⟨rfl, hb, ry⟩
theorem KT.keeps {H H' : Hp} {kvs : List (List Key × V)} {xs : List (List Key × Addr × Value)} (r : KT H kvs xs) (ht : ∀ b ys, H b = some (.tup ys) → H' b = some (.tup ys)) : KT H' kvs xs :=
  Paired.mapP r fun _ _ z => ⟨z.1, ht _ _ z.2.1, z.2.2⟩
section
variable {P : Program} {w : World} {H : Hp} {h : Heap} {a : Addr}
theorem rd_of {u : HO} (ok : HOk P w H h) (e : Rd H a u) : ObjOk P w H h a u := e.ok ok
theorem dk_rd {kvs : List (Key × V)} (ok : HOk P w H h) (e : Rd H a (.dK kvs)) : kvs.length ≤ sizeLine ∧ (a == sysModules) = false ∧ ∃ vs, KV kvs vs ∧ h.DictOf (mixKind P w) a vs :=
  show ObjOk P w H h a (.dK kvs) from rd_of ok e
theorem dk_of {kvs : List (Key × V)} (ok : HOk P w H h) (e : H a = some (.dK kvs)) : kvs.length ≤ sizeLine ∧ (a == sysModules) = false ∧ ∃ vs, KV kvs vs ∧ h.DictOf (mixKind P w) a vs := dk_rd ok (.inl e)
/-- a tracked tuple of ints and texts is a key -/
theorem key_of {ks : List Key} (ok : HOk P w H h) (e : H a = some (.tup (ks.map kV))) : (tupleKind (mixKind P w)).is h ks a := by
  obtain ⟨_, its, r, o, h1, h2, n, h3⟩ := (show ObjOk P w H h a (.tup (ks.map kV)) from ok a _ e)
  exact ⟨o, its.toArray, n, h1, h2, h3, by simpa using items_are r⟩
theorem dt_rd {kvs : List (List Key × V)} (ok : HOk P w H h) (e : Rd H a (.dT kvs)) : kvs.length ≤ sizeLine ∧ (a == sysModules) = false ∧
    ∃ xs, KT H kvs xs ∧ h.DictOfH (tupleKind (mixKind P w)) a xs := by
  obtain ⟨z, y, xs, r, o, es, ep, h1, h2, h3, h4, h5⟩ := (show ObjOk P w H h a (.dT kvs) from rd_of ok e)
  refine ⟨z, y, xs, r, o, es, ep, h1, h2, h3, h4, fun x hx => ?_, h5⟩
  have all : ∀ {l : List (List Key × V)} {m : List (List Key × Addr × Value)}, KT H l m → ∀ x ∈ m, (tupleKind (mixKind P w)).is h x.1 x.2.1 := by
    intro l m q
    induction q with
    | nil => intro x hx; exact nomatch hx
    | @cons p q ps qs hq t ih =>
      intro x hx
      rcases List.mem_cons.mp hx with e | hx
      · subst e
        exact key_of ok (by rw [← hq.1]; exact hq.2.1)
      · exact ih x hx
  exact all r x hx
theorem dt_of {kvs : List (List Key × V)} (ok : HOk P w H h) (e : H a = some (.dT kvs)) : kvs.length ≤ sizeLine ∧ (a == sysModules) = false ∧
    ∃ xs, KT H kvs xs ∧ h.DictOfH (tupleKind (mixKind P w)) a xs := dt_rd ok (.inl e)
end
/-- what the dict at a holds at the key y -/
def DGet (H : Hp) (a : Addr) (y : V) (r : Option V) : Prop :=
  (∃ kvs k, Rd H a (.dK kvs) ∧ y = kV k ∧ r = valV kvs k) ∨ ∃ kvs k b, Rd H a (.dT kvs) ∧ y = .ref b ∧ H b = some (.tup (k.map kV)) ∧ r = valV kvs k
/-- the heap behind a[y] = v -/
def DPut (H : Hp) (a : Addr) (y v : V) (H' : Hp) : Prop :=
  (∃ kvs k, H a = some (.dK kvs) ∧ y = kV k ∧ kvs.length < sizeLine ∧ H' = upd H a (.dK (putK kvs k v))) ∨
  ∃ kvs k b, H a = some (.dT kvs) ∧ y = .ref b ∧ H b = some (.tup (k.map kV)) ∧ kvs.length < sizeLine ∧ H' = upd H a (.dT (putK kvs k v))
theorem DGet.k {H : Hp} {a : Addr} {kvs : List (Key × V)} {k : Key} (e : H a = some (.dK kvs)) : DGet H a (kV k) (valV kvs k) := .inl ⟨kvs, k, .inl e, rfl, rfl⟩
theorem DPut.k {H : Hp} {a : Addr} {kvs : List (Key × V)} {k : Key} {v : V} (e : H a = some (.dK kvs)) (hl : kvs.length < sizeLine) : DPut H a (kV k) v (upd H a (.dK (putK kvs k v))) := .inl ⟨kvs, k, e, rfl, hl, rfl⟩
section
variable {X : Cx} {pins : List (Addr × Obj)} {σ : St} {H : Hp} {s : Shared} {a : Addr} {y v : V} {u r : Value} {o : Option V} {A : Around} {E : Value → Shared → Prop}
theorem Inv.big (I : Inv X pins σ H s) : sysModules < s.heap.objs.size := by
  have h : mainGlobals < s.heap.objs.size := (I.mod.glob.keeps I.bk).lt
  exact Nat.lt_trans (by decide) h
/-- d[y], there -/
theorem d_getItem {Q : Value → Shared → Prop} (hu : A.units + 1 < cLine) (I : Inv X pins σ H s) (g : DGet H a y (some v)) (ry : RelV y u) (h : ∀ w' s', Inv X pins σ H s' → RelV v w' → Q w' s') :
    wpAny (model X.prog X.w) A (getItem (.ref a) u) Q E s := by
  rcases g with ⟨kvs, k, e, ey, l⟩ | ⟨kvs, k, b, e, ey, eb, l⟩
  · subst ey
    obtain ⟨z, hd, vs, rel, dd⟩ := dk_rd I.hok e
    obtain ⟨w', hw, rw'⟩ := RelO.some_of (v := v) (o := valueAt vs k) (by rw [l]; exact rel.val k)
    exact wpAny_getItem_of (kV_is ry) dd.mapOf hw (h w' _ (I.tok _) rw')
  · subst ey
    cases (show u = Value.ref b from ry)
    obtain ⟨z, hd, xs, rel, dd⟩ := dt_rd I.hok e
    obtain ⟨w', hw, rw'⟩ := RelO.some_of (v := v) (o := (atKey xs k).map (·.2)) (by rw [l]; exact rel.val k)
    obtain ⟨p, hp, hp2⟩ := Option.map_eq_some_iff.mp hw
    refine wpAny_getItem_heap (tupleKind_room_in1 hu) (key_of I.hok eb) dd hp ?_
    rw [hp2]
    exact h w' _ (I.tok _) rw'
/-- a dict's object is replaced -/
theorem d_write {h' : Heap} {t' : Nat} {ob : HO} (I : Inv X pins σ H s) (mu : Mut (H a)) (hs : Heap.SameBut a s.heap h') (he : ∃ q, h'.get? a = some q) (new : ObjOk X.prog X.w (upd H a ob) h' a ob) :
    Inv X pins σ (upd H a ob) { s with heap := h', toks := t' } :=
  I.write (x := a) (e := a) mu (.inl rfl) (fun b q hb z => (hs.2 b hb).trans z) he new
theorem dk_new {P : Program} {w : World} {H' : Hp} {h' : Heap} {kvs : List (Key × V)} {vs : List (Key × Value)} (z : kvs.length ≤ sizeLine) (hd : (a == sysModules) = false) (rel : KV kvs vs) (dd : h'.DictOf (mixKind P w) a vs) :
    ObjOk P w H' h' a (.dK kvs) := ⟨z, hd, vs, rel, dd⟩
/-- d[y] = v -/
theorem d_setItem {H' : Hp} {Q : Unit → Shared → Prop} (hu : A.units + 1 < cLine) (I : Inv X pins σ H s) (g : DPut H a y v H') (ry : RelV y u) (rv : RelV v r) (h : ∀ s', Inv X pins σ H' s' → Q () s') :
    wpAny (model X.prog X.w) A (setItem (.ref a) u r) Q E s := by
  rcases g with ⟨kvs, k, e, ey, l, eH⟩ | ⟨kvs, k, b, e, ey, eb, l, eH⟩
  · subst ey eH
    obtain ⟨z, hd, vs, rel, dd⟩ := dk_of I.hok e
    have hz : vs.length ≤ sizeLine := by rw [← rel.length]; exact z
    have hl : (putK kvs k v).length ≤ sizeLine := by have := length_putK kvs k v; (first | lia | omega)
    refine wpAny_setItem_pairs (hsz := hz) (kV_is ry) dd fun h' dd' hs => h _ ?_
    have he : ∃ q, h'.get? a = some q := let ⟨q, _, _, hq, _⟩ := dd'; ⟨q, hq⟩
    exact d_write I (by rw [e]; exact True.intro) hs he (dk_new hl hd (rel.put k rv) dd')
  · subst ey eH
    cases (show u = Value.ref b from ry)
    obtain ⟨z, hd, xs, rel, dd⟩ := dt_of I.hok e
    have hz : xs.length ≤ sizeLine := by rw [← Paired.length rel]; exact z
    have hl : (putK kvs k v).length ≤ sizeLine := by have := length_putK kvs k v; (first | lia | omega)
    refine wpAny_setItem_heap (hsz := hz) (tupleKind_room_in1 hu) (key_of I.hok eb) dd fun h' dd' hs => h _ ?_
    obtain ⟨q, es, ep, hq, h2, h3, h4, _, h5⟩ := dd'
    refine d_write I (by rw [e]; exact True.intro) hs ⟨q, hq⟩ ⟨hl, hd, _, (rel.put k eb rv).keeps fun c ys ec => ?_, q, es, ep, hq, h2, h3, h4, h5⟩
    rw [upd_ne (ne_of ec e (fun z => nomatch z))]
    exact ec
end
section
variable {X : Cx} {pins : List (Addr × Obj)} {σ : St} {H : Hp} {s : Shared} {a : Addr} {kvs : List (Key × V)} {k : Key} {u : Value} {A : Around} {E : Value → Shared → Prop}
end
/-! ### readings and rules -/
/-- the element of a subscription, not a slice -/
def NoSl (i : Expr) : Prop := ∀ ov iv, subscripted i false ov iv = operate [ov, iv] (getItem ov iv)
theorem subD_of {prog : Program} {w : World} {A : Around} {E : Value → Shared → Prop} {s : Shared} {env : Env} {value slice : Expr} {pos : Pos} {T id : String} {Q : Value → Shared → Prop}
    (hl : typeLookup (.type T) "__getitem__" = pure (some (.builtin id))) (hs : NoSl slice)
    (h : wpAny (model prog w) A (eval value env) (fun o s₁ => wpAny (model prog w) A (eval slice env) (fun i s₂ => s₂.TypeIs o T ∧ wpAny (model prog w) A (getItem o i) Q E s₂) E s₁) E s) :
    wpAny (model prog w) A (eval (.Subscript value slice pos) env) Q E s := by
  refine Subscript_ (wpAny_mono h (fun o s₁ h₁ => wpAny_mono h₁ (fun i s₂ h₂ => ?_) fun _ _ x => x) fun _ _ x => x)
  obtain ⟨hT, h₂⟩ := h₂
  unfold subscriptTail
  refine wpAny_bind ?_
  rw [getitemInPython_of_ne hT.not_modules]
  refine wpAny_bind (wpAny_specialOf hT hl ?_)
  have fin : wpAny (model prog w) A (subscripted slice false o i) (fun r s₃ => wpAny (model prog w) A (letTemporaryGo value o r >>= fun _ => pure r) Q E s₃) E s₂ := by
    rw [hs o i]
    exact wpAny_operating (wpAny_mono h₂ (fun r s₃ h₃ => wpAny_bind (wpAny_letTemporaryGo (wpAny_pure h₃))) fun _ _ x => x)
  first
    | exact wpAny_pure (wpAny_bind fin)
    | exact wpAny_bind (wpAny_pure (wpAny_bind fin))
    | exact wpAny_bind fin
theorem dict_typeIs {X : Cx} {pins : List (Addr × Obj)} {σ : St} {H : Hp} {s : Shared} {a : Addr} {y : V} {o : Option V} (I : Inv X pins σ H s) (g : DGet H a y o) : s.TypeIs (.ref a) "dict" := by
  rcases g with ⟨kvs, k, e, _, _⟩ | ⟨kvs, k, b, e, _, _, _⟩
  · obtain ⟨_, _, vs, _, dd⟩ := dk_rd I.hok e
    exact dd.typeIs
  · obtain ⟨_, _, xs, _, dd⟩ := dt_rd I.hok e
    exact dd.typeIs
/-- d[y] -/
def tDGet (td ty : TE) : TE := fun σ H Q => td σ H fun x H1 => ty σ H1 fun y H2 => ∃ a v, x = .ref a ∧ DGet H2 a y (some v) ∧ Q v H2
/-- d[y] = v -/
def sDPut (td ty tv : TE) : TS := fun D σ H => tv σ H fun v H1 => td σ H1 fun x H2 => ty σ H2 fun y H3 => ∃ a H4, x = .ref a ∧ DPut H3 a y v H4 ∧ D.nx σ H4
section
variable {X : Cx} {o i e value : Expr} {pos pos' tpos : Pos} {td ty tv : TE}
theorem pe_dget (hu : X.A.units + 1 < cLine) (ho : PE X o td) (hi : PE X i ty) (hs : NoSl i) : PE X (.Subscript o i pos) (tDGet td ty) := by
  intro pins s σ H Q I h
  refine subD_of PySem.F.slot_dict_getitem.lookup hs (thn (ho pins s σ H _ I h) fun u s1 ⟨x, H1, I1, rx, q1⟩ => thn (hi pins s1 σ H1 _ I1 q1) fun iv s2 ⟨y, H2, I2, ry, a, v, ex, g, q2⟩ => ?_)
  subst ex
  obtain rfl : u = Value.ref a := rx
  exact ⟨dict_typeIs I2 g, d_getItem hu I2 g ry fun w' s3 I3 rw' => ⟨v, H2, I3, rw', q2⟩⟩
theorem ps_dput (hu : X.A.units + 1 < cLine) (ho : PE X o td) (hi : PE X i ty) (hv : PE X value tv) (hs : swapsWith value (some (.Subscript o i pos')) pos.line X.env = pure false) :
    PS X (.Assign [.Subscript o i pos'] value pos) (sDPut td ty tv) := by
  intro pins s σ H D I h
  refine wpAny_Assign_Subscript (thn (hv pins s σ H _ I h) fun r s1 ⟨v, H1, I1, rv, q1⟩ => thn (ho pins s1 σ H1 _ I1 q1) fun u s2 ⟨x, H2, I2, rx, q2⟩ => thn (hi pins s2 σ H2 _ I2 q2) fun iv s3 ⟨y, H3, I3, ry, a, H4, ex, g, q3⟩ => ?_) hs
  subst ex
  obtain rfl : u = Value.ref a := rx
  exact d_setItem hu I3 g ry rv fun s4 I4 => ⟨σ, H4, I4, q3⟩
end
/-! ### displays -/
theorem dk_empty {P : Program} {w : World} {H : Hp} (h : Heap) (hb : sysModules < h.objs.size) : ObjOk P w H (h.push { cls := .type "dict", data := .dict #[] }) h.objs.size (.dK []) :=
  ⟨Nat.zero_le _, beq_eq_false_iff_ne.mpr (Ne.symm (Nat.ne_of_lt hb)), [], .nil, Heap.DictOf.new h⟩
section
variable {X : Cx} {pos : Pos}
end
/-- the pairs of a display, from the left -/
def tPairs : List (TE × TE) → St → Hp → (List (V × V) → Hp → Prop) → Prop
  | [], _, H, Q => Q [] H
  | (tk, tv) :: r, σ, H, Q => tk σ H fun x H1 => tv σ H1 fun y H2 => tPairs r σ H2 fun ps H3 => Q ((x, y) :: ps) H3
abbrev VV : List (V × V) → List (Value × Value) → Prop := Paired fun p q => RelV p.1 q.1 ∧ RelV p.2 q.2
def PPs (X : Cx) (pos : Pos) (keys : List (Option Expr)) (values : List Expr) (trs : List (TE × TE)) : Prop :=
  ∀ (pins : List (Addr × Obj)) (s : Shared) (σ : St) (H : Hp) (Q : List (V × V) → Hp → Prop), Inv X pins σ H s → tPairs trs σ H Q →
    wpAny (model X.prog X.w) X.A (evalPairs (pairTrees keys values X.env pos)) (fun vs s' => ∃ ps H', Inv X pins σ H' s' ∧ VV ps vs ∧ Q ps H') X.xe s
theorem pps_nil {X : Cx} {pos : Pos} : PPs X pos [] [] [] := fun pins s σ H Q I h => pairTrees_nil_walk ⟨[], H, I, .nil, h⟩
theorem pps_cons {X : Cx} {pos : Pos} {k v : Expr} {ks : List (Option Expr)} {vs : List Expr} {tk tv : TE} {trs : List (TE × TE)} (hk : PE X k tk) (hv : PE X v tv) (hr : PPs X pos ks vs trs) :
    PPs X pos (some k :: ks) (v :: vs) ((tk, tv) :: trs) := fun pins s σ H Q I h =>
  pairTrees_cons_walk (thn (hk pins s σ H _ I h) fun u s1 ⟨x, H1, I1, rx, q1⟩ => thn (hv pins s1 σ H1 _ I1 q1) fun w2 s2 ⟨y, H2, I2, ry, q2⟩ =>
    thn (hr pins s2 σ H2 _ I2 q2) fun ws s3 ⟨ps, H3, I3, rel, q3⟩ => ⟨(x, y) :: ps, H3, I3, .cons ⟨rx, ry⟩ rel, q3⟩)
def mergeK (kvs more : List (Key × V)) : List (Key × V) := more.foldl (fun acc kv => putK acc kv.1 kv.2) kvs
theorem KV.merge : ∀ {more : List (Key × V)} {rs : List (Key × Value)} {kvs : List (Key × V)} {vs : List (Key × Value)}, KV more rs → KV kvs vs → KV (mergeK kvs more) (merged vs rs) := by
  intro more rs kvs vs r
  unfold KV at r
  induction r generalizing kvs vs with
  | nil => intro q; exact q
  | @cons p q ps qs h t ih =>
    intro r0
    have e : KV (putK kvs p.1 p.2) (stored vs q.1 q.2) := by
      have := r0.put p.1 h.2
      rw [← h.1]; exact this
    exact ih e
theorem length_mergeK : ∀ (more kvs : List (Key × V)), (mergeK kvs more).length ≤ kvs.length + more.length
  | [], kvs => by show kvs.length ≤ kvs.length + 0; (first | lia | omega)
  | p :: r, kvs => by
    have h1 := length_mergeK r (putK kvs p.1 p.2)
    have h2 := length_putK kvs p.1 p.2
    show (mergeK (putK kvs p.1 p.2) r).length ≤ _
    rw [List.length_cons]; (first | lia | omega)
theorem carries_of {P : Program} {w : World} : ∀ {kvs : List (Key × V)} {ws : List (Value × Value)}, VV (kvs.map fun kv => (kV kv.1, kv.2)) ws → ∃ rs, Carries (mixKind P w) ws rs ∧ KV kvs rs
  | [], _, r => by rw [List.map_nil] at r; cases r; exact ⟨[], True.intro, .nil⟩
  | p :: kvs, _, r => by
    rw [List.map_cons] at r
    cases r with
    | @cons a b as bs h t =>
      obtain ⟨rs, c, q⟩ := carries_of (P := P) (w := w) t
      obtain ⟨b1, b2⟩ := b
      exact ⟨(p.1, b2) :: rs, ⟨kV_is h.1, rfl, c⟩, .cons ⟨rfl, h.2⟩ q⟩
/-- {k: v, ..} with keys ints and texts; the new dict stands empty while the pairs are made -/
def tDisp (trs : List (TE × TE)) : TE := fun σ H Q => ∀ p, H p = none → tPairs trs σ (upd H p (.dK [])) fun ps H2 => H2 p = some (.dK []) ∧ ∃ kvs : List (Key × V), ps = kvs.map (fun kv => (kV kv.1, kv.2)) ∧ kvs.length ≤ 15 ∧ Q (.ref p) (upd H2 p (.dK (mergeK [] kvs)))
theorem pe_disp {X : Cx} {pos : Pos} {keys : List (Option Expr)} {values : List Expr} {trs : List (TE × TE)} (h : PPs X pos keys values trs) (hall : keys.all (·.isSome) = true) (hl : keys.length = values.length) (h0 : keys ≠ [])
    (h15 : keys.length ≤ 15) : PE X (.Dict keys values pos) (tDisp trs) := by
  intro pins s σ H Q I q
  have hn := I.hok.fresh (Nat.le_refl s.heap.objs.size)
  have I1 := I.laid (a := s.heap.objs.size) (o := .dK []) (h' := s.heap.push { cls := .type "dict", data := .dict #[] }) (t' := s.toks) (fun _ _ q => Heap.get?_push_of_some _ q) (Nat.le_refl _) (dk_empty s.heap I.big)
  refine wpAny_Dict_walk (knd := mixKind X.prog X.w) hall hl h0 h15 (thn (h pins _ σ _ _ I1 (q _ hn)) fun ws s2 ⟨ps, H2, I2, rel, e, kvs, ep, lk, q2⟩ => ?_)
  subst ep
  obtain ⟨rs, c, rk⟩ := carries_of (P := X.prog) (w := X.w) rel
  obtain ⟨z, hd, vs0, r0, dd⟩ := dk_of I2.hok e
  cases r0
  refine ⟨rs, c, dd, fun h' dd' hs => ⟨.ref s.heap.objs.size, _, ?_, rfl, q2⟩⟩
  have hz : (mergeK [] kvs).length ≤ sizeLine := by
    have h1 := length_mergeK kvs []
    rw [List.length_nil] at h1
    rw [sizeLine_eq]; (first | lia | omega)
  have he : ∃ q, h'.get? s.heap.objs.size = some q := let ⟨q, _, _, hq, _⟩ := dd'; ⟨q, hq⟩
  exact d_write I2 (by rw [e]; exact True.intro) hs he (dk_new hz hd (rk.merge .nil) dd')
section
variable {X : Cx} {pins : List (Addr × Obj)} {σ : St} {H : Hp} {s : Shared} {a : Addr} {y d : V} {u r : Value} {o : Option V} {A : Around} {E : Value → Shared → Prop}
end
section
variable {X : Cx} {o e f : Expr} {apos cpos : Pos} {td ty tx : TE}
end
/-! ### dict(d): a copy -/
section
variable {X : Cx} {pins : List (Addr × Obj)} {σ : St} {H : Hp} {s : Shared} {a : Addr} {kvs : List (Key × V)} {A : Around} {E : Value → Shared → Prop}
end
section
variable {X : Cx} {pins : List (Addr × Obj)} {σ : St} {H : Hp} {s : Shared} {a : Addr} {y : V} {u : Value} {A : Around} {E : Value → Shared → Prop}
end
end L2
namespace L2
open PySem PySem.Spec PyProof.Rows
/-! ### a dict's pairs: keys that differ -/
section
variable {κ : Type} [DecidableEq κ]
end
end L2
set_option Elab.async false
set_option linter.all false
set_option maxRecDepth 100000
namespace L2
open PySem PySem.Spec PyProof.Rows
/-! ### sizes of ints -/
abbrev bits (i : Int) : Nat := Builtin.Int.intBits i
def CDivB (i j : Int) : Prop := 0 < j ∧ bits j ≤ 9000
theorem log_of_bits {j : Int} {n : Nat} (h : bits j ≤ n) (hn : 0 < n) : j.natAbs.log2 < n := by
  unfold bits Builtin.Int.intBits at h
  by_cases hj : (j == 0) = true
  · have : j = 0 := by simpa using hj
    subst this
    exact Nat.lt_of_le_of_lt (by decide +kernel : (0 : Int).natAbs.log2 ≤ 0) hn
  · rw [if_neg hj] at h
    (first | lia | omega)
section
variable {X : Cx}
theorem op_fdivB : OpR X (binaryOp .FloorDiv) (rI CDivB fun i j => .int (i / j)) := opI fun i j _ _ _ _ _ hc q => by
  refine floordiv_int (by have := hc.1; (first | lia | omega)) ?_ (.inl (PyProof.noPylong_of_log2 (log_of_bits hc.2 (by decide))))
  rw [Int.fdiv_eq_ediv_of_nonneg i (by have := hc.1; (first | lia | omega))]
  exact q
theorem op_mulB : OpR X (binaryOp .Mult) (rI IntMulOk fun i j => .int (i * j)) := opI fun _ _ _ _ _ _ _ hc q => mul_int q hc
end
/-! ### data: what a value reads as -/
mutual
def Rep (H : Hp) : PyData → V → Prop
  | .none, v => v = .non
  | .bool b, v => v = .bl b
  | .int i, v => v = .int i
  | .str x, v => v = .str x
  | .list ds, v => ∃ a xs, v = .ref a ∧ H a = some (.lst xs) ∧ RepL H ds xs
  | .tuple ds, v => ∃ a xs, v = .ref a ∧ H a = some (.tup xs) ∧ RepL H ds xs
  | .dict kvs, v => kvs = [] ∧ ∃ a, v = .ref a ∧ H a = some (.dK [])
def RepL (H : Hp) : List PyData → List V → Prop
  | [], vs => vs = []
  | d :: ds, vs => ∃ x xs, vs = x :: xs ∧ Rep H d x ∧ RepL H ds xs
end
mutual
theorem Rep.same {H H' : Hp} (e : Same H H') : ∀ {d : PyData} {v : V}, Rep H d v → Rep H' d v
  | .none, _, h => h
  | .bool _, _, h => h
  | .int _, _, h => h
  | .str _, _, h => h
  | .list ds, _, h => by
    unfold Rep at h ⊢
    obtain ⟨a, xs, rfl, h1, h2⟩ := h
    exact ⟨a, xs, rfl, e _ _ h1, RepL.same e h2⟩
  | .tuple ds, _, h => by
    unfold Rep at h ⊢
    obtain ⟨a, xs, rfl, h1, h2⟩ := h
    exact ⟨a, xs, rfl, e _ _ h1, RepL.same e h2⟩
  | .dict kvs, _, h => by
    unfold Rep at h ⊢
    obtain ⟨h0, a, rfl, h1⟩ := h
    exact ⟨h0, a, rfl, e _ _ h1⟩
theorem RepL.same {H H' : Hp} (e : Same H H') : ∀ {ds : List PyData} {vs : List V}, RepL H ds vs → RepL H' ds vs
  | [], _, h => h
  | d :: ds, _, h => by
    unfold RepL at h ⊢
    obtain ⟨x, xs, rfl, h1, h2⟩ := h
    exact ⟨x, xs, rfl, Rep.same e h1, RepL.same e h2⟩
end
theorem Rep.tup {H : Hp} {a : Addr} {xs : List V} {ds : List PyData} (h : H a = some (.tup xs)) (r : RepL H ds xs) : Rep H (.tuple ds) (.ref a) := by
  unfold Rep; exact ⟨a, xs, rfl, h, r⟩
theorem Rep.lst {H : Hp} {a : Addr} {xs : List V} {ds : List PyData} (h : H a = some (.lst xs)) (r : RepL H ds xs) : Rep H (.list ds) (.ref a) := by
  unfold Rep; exact ⟨a, xs, rfl, h, r⟩
theorem Rep.int {H : Hp} (i : Int) : Rep H (.int i) (.int i) := by unfold Rep; rfl
theorem Rep.non {H : Hp} : Rep H .none .non := by unfold Rep; rfl
theorem RepL.nil {H : Hp} : RepL H [] [] := by unfold RepL; rfl
theorem RepL.cons {H : Hp} {d : PyData} {ds : List PyData} {x : V} {xs : List V} (h : Rep H d x) (hs : RepL H ds xs) : RepL H (d :: ds) (x :: xs) := by
  unfold RepL; exact ⟨x, xs, rfl, h, hs⟩
section
variable {X : Cx} {pins : List (Addr × Obj)} {σ : St} {H : Hp} {s : Shared}
mutual
theorem Rep.reads (I : Inv X pins σ H s) : ∀ {d : PyData} {v : V} {u : Value}, Rep H d v → RelV v u → ∃ as, Reads s.heap u d as
  | .none, _, u, h, r => by
    cases (show _ = V.non from h); cases (show u = Value.none from r); exact ⟨_, .none⟩
  | .bool b, _, u, h, r => by
    cases (show _ = V.bl b from h); cases (show u = Value.bool b from r); exact ⟨_, .bool b⟩
  | .int b, _, u, h, r => by
    cases (show _ = V.int b from h); obtain ⟨t, q⟩ := (show ∃ t, u = Value.int b t from r); cases q; exact ⟨_, .int b t⟩
  | .str b, _, u, h, r => by
    cases (show _ = V.str b from h); obtain ⟨t, q⟩ := (show ∃ t, u = Value.str b t from r); cases q; exact ⟨_, .str b t⟩
  | .list ds, v, u, h, r => by
    unfold Rep at h
    obtain ⟨a, xs, rfl, h1, h2⟩ := h
    cases (show u = Value.ref a from r)
    obtain ⟨_, its, n, r', e⟩ := (show ObjOk X.prog X.w H s.heap a (.lst xs) from I.hok a _ h1)
    obtain ⟨as, q⟩ := RepL.reads I h2 r'
    exact ⟨_, .list e rfl rfl (by simpa using q)⟩
  | .tuple ds, v, u, h, r => by
    unfold Rep at h
    obtain ⟨a, xs, rfl, h1, h2⟩ := h
    cases (show u = Value.ref a from r)
    obtain ⟨_, its, r', o, e, hc, n, hd⟩ := (show ObjOk X.prog X.w H s.heap a (.tup xs) from I.hok a _ h1)
    obtain ⟨as, q⟩ := RepL.reads I h2 r'
    exact ⟨_, .tuple e hc hd (by simpa using q)⟩
  | .dict kvs, v, u, h, r => by
    unfold Rep at h
    obtain ⟨rfl, a, rfl, h1⟩ := h
    cases (show u = Value.ref a from r)
    obtain ⟨_, _, vs, kv, o, es, ep, e, hx, hd, _, hes, _⟩ := (show ObjOk X.prog X.w H s.heap a (.dK []) from I.hok a _ h1)
    cases kv
    have he : es.toList = [] := by
      cases q : es.toList with
      | nil => rfl
      | cons y ys => rw [q] at hes; cases hes
    exact ⟨_, .dict e hx.1 hd (by rw [he]; exact .nil) (by rw [he]; exact .nil)⟩
theorem RepL.reads (I : Inv X pins σ H s) : ∀ {ds : List PyData} {vs : List V} {us : List Value}, RepL H ds vs → Vals vs us → ∃ as, ReadsAll s.heap us ds as
  | [], _, us, h, r => by
    cases (show _ = [] from h); cases r; exact ⟨_, .nil⟩
  | d :: ds, _, us, h, r => by
    unfold RepL at h
    obtain ⟨x, xs, rfl, h1, h2⟩ := h
    cases r with
    | cons r1 r2 =>
      obtain ⟨as, q1⟩ := Rep.reads I h1 r1
      obtain ⟨bs, q2⟩ := RepL.reads I h2 r2
      exact ⟨_, .cons q1 q2⟩
end
end
/-! ### repr -/
section
variable {X : Cx}
theorem call_repr (hg : X.A.guards = some []) (hu : X.A.units + 64 < cLine) : CallR X (.builtin "repr") (fun xs H Q => ∃ x d, xs = [x] ∧ Rep H d x ∧ d.showable = true ∧ d.hasDict = false ∧ d.depth ≤ 60 ∧ d.shown.length ≤ sizeLine ∧ Q (.str d.shown) H) := by
  intro pins s σ H xs us Q I r h
  obtain ⟨x, d, rfl, hr, hs, hnd, hdp, hz, q⟩ := h
  obtain ⟨u, rfl, ru⟩ := vals1 r
  obtain ⟨as, rd⟩ := hr.reads I ru
  cases rd with
  | none => exact PySem.P.repr_of_none ⟨.str _, H, I.tok _, ⟨_, rfl⟩, q⟩
  | bool b => exact PySem.P.repr_of_bool ⟨.str _, H, I.tok _, ⟨_, rfl⟩, q⟩
  | int i t => exact PySem.P.repr_of_int (by simpa [PyData.showable] using hs) ⟨.str _, H, I.tok _, ⟨_, rfl⟩, q⟩
  | str y t => exact PySem.P.repr_of_str ⟨.str _, H, I.tok _, ⟨_, rfl⟩, q⟩ hz
  | list a1 a2 a3 a4 => exact repr_of_reads' (.list a1 a2 a3 a4) hs (PyData.noDict_hsm hnd) hg (by (first | lia | omega)) (fun _ _ e => e) (fun h' u tk hk => ⟨.str _, H, I.kept hk, ⟨_, rfl⟩, q⟩) hz
  | tuple a1 a2 a3 a4 => exact repr_of_reads' (.tuple a1 a2 a3 a4) hs (PyData.noDict_hsm hnd) hg (by (first | lia | omega)) (fun _ _ e => e) (fun h' u tk hk => ⟨.str _, H, I.kept hk, ⟨_, rfl⟩, q⟩) hz
  | dict a1 a2 a3 a4 a5 => simp [PyData.hasDict] at hnd
end
section
variable {X : Cx}
end
end L2
namespace L2
open PySem PySem.Spec PyProof.Rows
/-! ### a def that is called by its name -/
structure FnC (CX : CXT) (P : Program) (w : World) (K : PySem.W.Frag) (mg : Str → Option Value) (base : Heap) (k : Nat) (x : Str) (ps : List Str) (sp : Sp) : Prop where
  ex : ∃ (f : Addr) (fd : FuncData), FnOk P w K mg base CX k f fd ps sp ∧ mg x = some (.ref f) ∧ PySem.W.keepIn K (.ref f) = true ∧ Binds K fd ps []
section
variable {X : Cx} {k : Nat} {ps : List Str} {sp : Sp} {x : Str} {p pos : Pos} {e : Expr} {es : List Expr} {t : TA}
theorem pe_fn (F : FnC CX0 X.prog X.w X.K X.mg X.base k x ps sp) (hr : Room k X.A) (ha : PA X (e :: es) t) (hg : Gl X x := by rfl)
    (hdb : (x == ("__debug__" : Str)) = false := by decide) (he : starEach (e :: es) X.env = (false, eval e X.env) :: starEach es X.env := by rfl) (hpl : (backTo pos (starEach es X.env)).any (·.1) = false := by rfl) :
    PE X (.Call (.Name x p) (e :: es) [] pos) (tCall sp [] E0 t) := by
  obtain ⟨f, fd, h1, h2, h3, h4⟩ := F.ex
  exact pe_call h1 hr hg h2 h3 h4 .nil pass0 ha hdb he hpl
end
/-! ### subscripts, by cases of the heap -/
section
variable {K : PySem.W.Frag} {H : Hp} {p : Addr} {xs : List V} {i : Int} {v : V} {Q : VK}
theorem ixL (h : H p = some (.lst xs)) (e : atI xs i = some v) (q : Q v H) : rIx K (.ref p) (.int i) H Q := .inl ⟨p, xs, i, v, rfl, rfl, SqL.of h, e, q⟩
theorem ixT (h : H p = some (.tup xs)) (e : atI xs i = some v) (q : Q v H) : rIx K (.ref p) (.int i) H Q := .inr (.inl ⟨p, xs, i, v, rfl, rfl, SqT.of h, e, q⟩)
theorem stL {u : V} {Q : Hp → Prop} {j : Nat} (h : H p = some (.lst xs)) (e : ixN xs.length i = some j) (q : Q (upd H p (.lst (xs.set j u)))) : rSetL (.ref p) (.int i) u H Q := ⟨p, xs, i, j, rfl, rfl, h, e, q⟩
end
/-! ### all but one address -/
def Hide (p : Addr) (H : Hp) : Hp := fun b => if b = p then none else H b
theorem Hide.at {p b : Addr} {H : Hp} (h : b ≠ p) : Hide p H b = H b := by unfold Hide; rw [if_neg h]
theorem Hide.self {p : Addr} {H : Hp} : Hide p H p = none := by unfold Hide; rw [if_pos rfl]
theorem Hide.same {p : Addr} {H : Hp} : Same (Hide p H) H := fun b o h => by
  unfold Hide at h
  by_cases e : b = p
  · rw [if_pos e] at h; cases h
  · rw [if_neg e] at h; exact h
theorem Hide.ne {p b : Addr} {H : Hp} {o : HO} (h : Hide p H b = some o) : b ≠ p := fun e => by
  subst e; rw [Hide.self] at h; cases h
theorem Hide.of {p b : Addr} {H : Hp} {o : HO} (n : b ≠ p) (h : H b = some o) : Hide p H b = some o := by rw [Hide.at n]; exact h
theorem Hide.upd_self {p : Addr} {H : Hp} {o : HO} : Hide p (upd H p o) = Hide p H := by
  funext b
  by_cases e : b = p
  · subst e; rw [Hide.self, Hide.self]
  · rw [Hide.at e, Hide.at e, L2.upd_ne e]
abbrev SameBut (p : Addr) (H H' : Hp) : Prop := Same (Hide p H) (Hide p H')
theorem Same.but {p : Addr} {H H' : Hp} (h : Same H H') : SameBut p H H' := fun b o e => by
  have n := Hide.ne e
  exact Hide.of n (h _ _ (Hide.same _ _ e))
theorem Same.upd {H : Hp} {q : Addr} {o : HO} (h : H q = none) : Same H (upd H q o) := fun b u e => by
  rw [L2.upd_ne (ne_of_none e h)]; exact e
theorem SameBut.self {p : Addr} {H : Hp} {o : HO} : SameBut p H (upd H p o) := by unfold SameBut; rw [Hide.upd_self]; exact Same.refl _
/-- not tracked now, not tracked ahead -/
theorem SameBut.free {p q : Addr} {H H' : Hp} (e : SameBut p H H') (hp : ∃ o, H' p = some o) (h : H' q = none) : H q = none := by
  cases k : H q with
  | none => rfl
  | some o =>
    by_cases n : q = p
    · subst n; obtain ⟨o', h'⟩ := hp; rw [h'] at h; cases h
    · have := Hide.same _ _ (e q o (Hide.of n k)); rw [this] at h; cases h
end L2
namespace L2
open PySem PySem.Spec PyProof.Rows
section
variable {K : PySem.W.Frag} {H : Hp} {p : Addr} {xs : List V} {i : Int} {v : V} {Q : VK}
theorem stG {u : V} {Q : Hp → Prop} {j : Nat} (h : H p = some (.lst xs)) (e : ixN xs.length i = some j) (k : ∀ H', H' p = some (.lst (xs.set j u)) → SameBut p H H' → Q H') : rSetL (.ref p) (.int i) u H Q :=
  stL h e (k _ upd_same SameBut.self)
theorem alT {Q : V → Hp → Prop} (hz : xs.length ≤ sizeLine) (k : ∀ q H', H q = none → H' q = some (.tup xs) → Same H H' → Q (.ref q) H') : xs.length ≤ sizeLine ∧ ∀ p, H p = none → Q (.ref p) (upd H p (.tup xs)) :=
  ⟨hz, fun q hq => k q _ hq upd_same (Same.upd hq)⟩
theorem alL {Q : V → Hp → Prop} (hz : xs.length ≤ sizeLine) (k : ∀ q H', H q = none → H' q = some (.lst xs) → Same H H' → Q (.ref q) H') : xs.length ≤ sizeLine ∧ ∀ p, H p = none → Q (.ref p) (upd H p (.lst xs)) :=
  ⟨hz, fun q hq => k q _ hq upd_same (Same.upd hq)⟩
theorem SameBut.at {p b : Addr} {H H' : Hp} {o : HO} (s : SameBut p H H') (n : b ≠ p) (h : H b = some o) : H' b = some o := Hide.same _ _ (s _ _ (Hide.of n h))
end
theorem small64 {n : Nat} (h : n ≤ 64) : n ≤ sizeLine := Nat.le_trans h (by decide)
theorem iteD {c A B : Prop} [Decidable c] (h1 : c → A) (h2 : ¬ c → B) : if decide c = true then A else B :=
  ite2 (fun h => h1 (of_decide_eq_true h)) (fun h => h2 (fun k => h (decide_eq_true k)))
end L2
namespace L2
open PySem PySem.Spec PyProof.Rows
/-! ### while, by a word with its measure -/
def tMono (c : TT) : TT := fun σ H Q => ∃ Q' : Bool → Hp → Prop, c σ H Q' ∧ ∀ b H1, Q' b H1 → Q b H1
theorem PT.mono {X : Cx} {e : Expr} {c : TT} (h : PT X e c) : PT X e (tMono c) := fun pins s σ H Q I ⟨Q', h1, h2⟩ =>
  thn (h pins s σ H Q' I h1) fun b s' ⟨H', I', q⟩ => ⟨H', I', h2 _ _ q⟩
theorem ps_whileM {X : Cx} {pos : Pos} {c : Expr} {body : List Stmt} {tc : TT} {tb : TS} (hp : PassesOwn (model X.prog X.w) X.A X.env X.xe) (hc : PT X c tc) (hb : PSs X body tb) : PS X (.While c body [] pos) (tWhile (tMono tc) tb) :=
  ps_while hp hc.mono hb
end L2
namespace L2
open PySem PySem.Spec PyProof.Rows
/-! ### named readings of calls -/
@[irreducible] def rLen (K : PySem.W.Frag) : List V → Hp → VK → Prop := fun xs H Q => ∃ x n, xs = [x] ∧ LenV K x H n ∧ Q (.int n) H
@[irreducible] def rAbs : List V → Hp → VK → Prop := fun xs H Q => ∃ i, xs = [.int i] ∧ Q (.int (i.natAbs : Int)) H
@[irreducible] def rRepr : List V → Hp → VK → Prop := fun xs H Q => ∃ x d, xs = [x] ∧ Rep H d x ∧ d.showable = true ∧ d.hasDict = false ∧ d.depth ≤ 60 ∧ d.shown.length ≤ sizeLine ∧ Q (.str d.shown) H
section
variable {X : Cx} {K : PySem.W.Frag} {H : Hp} {p : Addr} {xs : List V} {Q : VK}
theorem cl_len : CallR X (.builtin "len") (rLen X.K) := by unfold rLen; exact call_len
theorem cl_abs : CallR X (.builtin "abs") rAbs := by
  unfold rAbs
  exact fun pins s σ H xs us Q I r ⟨i, e, q⟩ => call_abs pins s σ H xs us Q I r ⟨i, e, by
  have : (if i < 0 then -i else i) = (i.natAbs : Int) := by split <;> (first | lia | omega)
  rw [this]; exact q⟩
theorem cl_repr (hg : X.A.guards = some []) (hu : X.A.units + 64 < cLine) : CallR X (.builtin "repr") rRepr := by unfold rRepr; exact call_repr hg hu
theorem rlL (h : H p = some (.lst xs)) (q : Q (.int xs.length) H) : rLen K [V.ref p] H Q := by unfold rLen; exact ⟨_, _, rfl, .inl ⟨xs, SqL.of h, rfl⟩, q⟩
theorem rlT (h : H p = some (.tup xs)) (q : Q (.int xs.length) H) : rLen K [V.ref p] H Q := by unfold rLen; exact ⟨_, _, rfl, .inr ⟨xs, SqT.of h, rfl⟩, q⟩
theorem raI {i : Int} (q : Q (.int (i.natAbs : Int)) H) : rAbs [V.int i] H Q := by unfold rAbs; exact ⟨i, rfl, q⟩
theorem rrI {x : V} {d : PyData} (r : Rep H d x) (h1 : d.showable = true) (h2 : d.hasDict = false) (h3 : d.depth ≤ 60) (h4 : d.shown.length ≤ sizeLine) (q : Q (.str d.shown) H) : rRepr [x] H Q := by unfold rRepr; exact ⟨x, d, rfl, r, h1, h2, h3, h4, q⟩
end
end L2
namespace L2
open PySem PySem.Spec PyProof.Rows
/-- .. with a word R for the state behind the loop (no break) -/
theorem while_r {c : TT} {tb : TS} {D : Ends} {σ : St} {H : Hp} (W : Nat → St → Hp → Prop) (R : St → Hp → Prop) (m : Nat) (h0 : W m σ H)
    (hs : ∀ m σ H, W m σ H → c σ H fun b H1 => if b = true then tb { D with nx := fun σ' H' => ∃ m', m' < m ∧ W m' σ' H', ct := fun σ' H' => ∃ m', m' < m ∧ W m' σ' H', bk := D.nx } σ H1 else R σ H1)
    (hd : ∀ σ H, R σ H → D.nx σ H) : tWhile (tMono c) tb D σ H :=
  ⟨W, ⟨m, h0⟩, fun m σ H hw => ⟨_, hs m σ H hw, fun b H1 q => by
    by_cases hb : b = true
    · rw [if_pos hb] at q ⊢
      exact ⟨_, fun _ _ h => h, q⟩
    · rw [if_neg hb] at q ⊢
      exact hd _ _ q⟩⟩
end L2
namespace L2
open PySem PySem.Spec PyProof.Rows
/-- a word between a statement and what follows it -/
def tCut (t : TS) : TS := fun D σ H => ∃ R : St → Hp → Prop, (∀ σ' H', R σ' H' → D.nx σ' H') ∧ t { D with nx := R } σ H
theorem ps_cut {X : Cx} {st : Stmt} {t : TS} (h : PS X st t) : PS X st (tCut t) := fun pins s σ H D I ⟨R, hR, q⟩ =>
  thn (h pins s σ H _ I q) fun f s' z => by
    cases f with
    | next => obtain ⟨σ', H', I', r⟩ := z; exact ⟨σ', H', I', hR _ _ r⟩
    | brk => exact z
    | cont => exact z
    | ret u => exact z
end L2
namespace L2
open PySem PySem.Spec PyProof.Rows
/-! ### no star among arguments: by the head alone -/
section
variable {es : List Expr} {env : Env}
theorem se_BinOp {a b c d} : starEach (.BinOp a b c d :: es) env = (false, eval (.BinOp a b c d) env) :: starEach es env := by rw [starEach] <;> (intros; contradiction)
theorem se_UnaryOp {a b c} : starEach (.UnaryOp a b c :: es) env = (false, eval (.UnaryOp a b c) env) :: starEach es env := by rw [starEach] <;> (intros; contradiction)
theorem se_ListComp {a b c d} : starEach (.ListComp a b c d :: es) env = (false, eval (.ListComp a b c d) env) :: starEach es env := by rw [starEach] <;> (intros; contradiction)
theorem se_Compare {a b c d} : starEach (.Compare a b c d :: es) env = (false, eval (.Compare a b c d) env) :: starEach es env := by rw [starEach] <;> (intros; contradiction)
theorem se_Call {a b c d} : starEach (.Call a b c d :: es) env = (false, eval (.Call a b c d) env) :: starEach es env := by rw [starEach] <;> (intros; contradiction)
theorem se_Constant {a b c} : starEach (.Constant a b c :: es) env = (false, eval (.Constant a b c) env) :: starEach es env := by rw [starEach] <;> (intros; contradiction)
theorem se_Subscript {a b c} : starEach (.Subscript a b c :: es) env = (false, eval (.Subscript a b c) env) :: starEach es env := by rw [starEach] <;> (intros; contradiction)
theorem se_Name {a b} : starEach (.Name a b :: es) env = (false, eval (.Name a b) env) :: starEach es env := by rw [starEach] <;> (intros; contradiction)
theorem se_Tuple {a b c} : starEach (.Tuple a b c :: es) env = (false, eval (.Tuple a b c) env) :: starEach es env := by rw [starEach] <;> (intros; contradiction)
end
section
variable {X : Cx} {k : Nat} {ps : List Str} {sp : Sp} {x : Str} {p pos : Pos} {e : Expr} {es : List Expr} {te : TE} {t : TA} {id T : String} {r : List V → Hp → VK → Prop}
theorem ap_nil {env : Env} : (backTo pos (starEach [] env)).any (·.1) = false := rfl
theorem ap_cons {env : Env} (hs : starEach (e :: es) env = (false, eval e env) :: starEach es env) (h : (backTo pos (starEach es env)).any (·.1) = false) : (backTo pos (starEach (e :: es) env)).any (·.1) = false := by
  rw [hs]
  show (false || (backTo pos (starEach es env)).any (·.1)) = false
  rw [h]; rfl
end
end L2
set_option Elab.async false
set_option linter.all false
set_option maxRecDepth 100000
namespace L2
open PySem PySem.Spec PyProof.Rows
/-! ### the judgements, shut: so that no elaboration looks into them -/
structure PEw (X : Cx) (e : Expr) (t : TE) : Prop where p : PE X e t
structure PTw (X : Cx) (e : Expr) (t : TT) : Prop where p : PT X e t
structure PWw (X : Cx) (e : Expr) (t : TT) : Prop where p : PW X e t
structure PAw (X : Cx) (es : List Expr) (t : TA) : Prop where p : PA X es t
structure PSw (X : Cx) (st : Stmt) (t : TS) : Prop where p : PS X st t
structure PSsw (X : Cx) (st : List Stmt) (t : TS) : Prop where p : PSs X st t
structure PGw (X : Cx) (e : Expr) (t : TG) : Prop where p : PG X e t
structure PGsw (X : Cx) (es : List Expr) (t : TGs) : Prop where p : PGs X es t
structure PIw (X : Cx) (tg iter : Expr) (t : TI) : Prop where p : PI X tg iter t
structure POw (X : Cx) (e : Option Expr) (t : TO) : Prop where p : PO X e t
/-! new tuples and lists -/
@[irreducible] def rNewT (xs : List V) (H : Hp) (Q : VK) : Prop := xs.length ≤ sizeLine ∧ ∀ p, H p = none → Q (.ref p) (upd H p (.tup xs))
@[irreducible] def rNewL (xs : List V) (H : Hp) (Q : VK) : Prop := xs.length ≤ sizeLine ∧ ∀ p, H p = none → Q (.ref p) (upd H p (.lst xs))
theorem nwT {xs : List V} {H : Hp} {Q : VK} (hz : xs.length ≤ 64) (k : ∀ q H', H q = none → H' q = some (.tup xs) → Same H H' → Q (.ref q) H') : rNewT xs H Q := by unfold rNewT; exact alT (small64 hz) k
theorem nwL {xs : List V} {H : Hp} {Q : VK} (hz : xs.length ≤ 64) (k : ∀ q H', H q = none → H' q = some (.lst xs) → Same H H' → Q (.ref q) H') : rNewL xs H Q := by unfold rNewL; exact alL (small64 hz) k
def tTu (t : TA) : TE := fun σ H Q => t σ H fun xs H1 => rNewT xs H1 Q
def tLs (t : TA) : TE := fun σ H Q => t σ H fun xs H1 => rNewL xs H1 Q
section
variable {X : Cx} {a b c e o tg : Expr} {es rest : List Expr} {ta tb tc te to : TE} {tA tB' : TT} {t : TA} {pos p p2 : Pos} {st : Stmt} {sts body orelse : List Stmt} {ts us : TS} {x : Str} {r r' : R2} {id T : String} {rl : List V → Hp → VK → Prop} {k i j : Nat} {ps : List Str} {sp : Sp} {n : Nat}
theorem we_v (i : Nat) {x : Str} {pos : Pos} (hN : X.N[i]? = some x := by rfl) (hv : Vis X.env.scope x := by first | exact Or.inl rfl | exact Or.inr (Or.inl rfl) | exact Or.inr (Or.inr rfl)) (hd : (x == ("__debug__" : Str)) = false := by decide)
    (hcd : (x == ("__classdict__" : Str)) = false := by decide) : PEw X (.Name x pos) (tVar i) := ⟨pv i hN hv hd hcd⟩
theorem we_int {i j pos} : PEw X (.Constant (.int i) j pos) (tC (.int i)) := ⟨pe_int⟩
theorem we_bl {b j pos} : PEw X (.Constant (.bool b) j pos) (tC (.bl b)) := ⟨pe_bl⟩
theorem we_non {j pos} : PEw X (.Constant .none j pos) (tC .non) := ⟨pe_non⟩
theorem we_str {x j pos} : PEw X (.Constant (.str x) j pos) (tC (.str x)) := ⟨pe_str⟩
theorem we_glob {v : V} {u : Value} (hg : Gl X x) (hm : X.mg x = some u) (r : RelV v u) (hd : (x == ("__debug__" : Str)) = false := by decide) : PEw X (.Name x pos) (tC v) := ⟨pe_glob hg hm r hd⟩
theorem we_op {op : Operator} (ho : OpR X (binaryOp op) r) (ha : PEw X a ta) (hb : PEw X b tb) : PEw X (.BinOp a op b pos) (tOp r ta tb) := ⟨pe_op ho ha.p hb.p⟩
theorem we_un {op : UnaryOp} {r : V → Hp → VK → Prop} (ho : UnR X (unaryOp op) r) (ha : PEw X a ta) : PEw X (.UnaryOp op a pos) (tUn r ta) := ⟨pe_un ho ha.p⟩
theorem we_cmp {op : CmpOp} (ho : OpR X (compareOp op) r) (ha : PEw X a ta) (hb : PEw X b tb) (hm : behindInMarks op b = false) : PEw X (.Compare a [op] [b] pos) (tOp r ta tb) := ⟨pe_cmpR ho ha.p hb.p hm⟩
theorem wt_cmp {op : CmpOp} (ho : OpR X (compareOp op) r) (ha : PEw X a ta) (hb : PEw X b tb) (hm : behindInMarks op b = false) : PTw X (.Compare a [op] [b] pos) (tTest (tOp r ta tb)) := ⟨pt_cmpR ho ha.p hb.p hm⟩
theorem wt_val (h : PEw X e te) (he : ∀ whole, isTrue e X.env whole = (do let v ← whole; standAt e.pos; holding [v] (truthy v)) := by intro _; rfl) : PTw X e (tB te) := ⟨pt_val h.p he⟩
theorem ww_and1 (ha : PTw X a tA) : PWw X (.BoolOp .And [a] pos) tA := ⟨pw_and1 ha.p⟩
theorem ww_or1 (ha : PTw X a tA) : PWw X (.BoolOp .Or [a] pos) tA := ⟨pw_or1 ha.p⟩
theorem ww_and (ha : PTw X a tA) (hb : PWw X (.BoolOp .And (b :: rest) pos) tB') : PWw X (.BoolOp .And (a :: b :: rest) pos) (tAnd tA tB') := ⟨pw_and ha.p hb.p⟩
theorem ww_or (ha : PTw X a tA) (hb : PWw X (.BoolOp .Or (b :: rest) pos) tB') : PWw X (.BoolOp .Or (a :: b :: rest) pos) (tOr tA tB') := ⟨pw_or ha.p hb.p⟩
theorem wt_w (h : PWw X e tA) : PTw X e tA := ⟨h.p.pt⟩
theorem wt_not (ha : PTw X a tA) : PTw X (.UnaryOp .Not a pos) (tNot tA) := ⟨pt_not ha.p⟩
theorem we_ifExp (hc : PTw X c tA) (ha : PEw X a ta) (hb : PEw X b tb) : PEw X (.IfExp c a b pos) (tIf tA ta tb) := ⟨pe_ifExp hc.p ha.p hb.p⟩
theorem wa_nil : PAw X [] tNil := ⟨pa_nil⟩
theorem wa_k (ha : PEw X e te) (hr : PAw X es t) (hs : starEach (e :: es) X.env = (false, eval e X.env) :: starEach es X.env := by first | exact se_Name | exact se_Constant | exact se_BoolOp | exact se_BinOp | exact se_UnaryOp | exact se_IfExp | exact se_Dict | exact se_ListComp | exact se_Compare | exact se_Call | exact se_Attribute | exact se_Subscript | exact se_List | exact se_Tuple | exact se_JoinedStr | exact se_GeneratorExp) : PAw X (e :: es) (tCons te t) := ⟨pa_cons ha.p hr.p hs⟩
theorem we_tup {x1} (h : PAw X es t) : PEw X (.Tuple es x1 pos) (tTu t) := ⟨by unfold tTu rNewT; exact pe_tup h.p⟩
theorem we_lst (h : PAw X es t) : PEw X (.List es pos) (tLs t) := ⟨by unfold tLs rNewL; exact pe_lst h.p⟩
theorem we_ix (hr : IxR X r) (ha : PEw X a ta) (hb : PEw X b tb) (hs : PlainIx b) : PEw X (.Subscript a b pos) (tOp r ta tb) := ⟨pe_ix hr ha.p hb.p hs⟩
theorem wo_none : POw X none tNoPart := ⟨po_none⟩
theorem wo_some (h : PEw X e te) : POw X (some e) (tPart te) := ⟨po_some h.p⟩
theorem we_slice {lo hi : Option Expr} {tl th : TO} {r : V → Option Int → Option Int → Hp → VK → Prop} (hr : SlR X r) (he : PEw X e te) (hl : POw X lo tl) (hu : POw X hi th) : PEw X (.Subscript e (.Slice lo hi none p2) pos) (tSl r te tl th) := ⟨pe_slice hr he.p hl.p hu.p⟩
theorem we_fn (F : FnC CX0 X.prog X.w X.K X.mg X.base k x ps sp) (hr : Room k X.A) (ha : PAw X (e :: es) t) (hg : Gl X x := by rfl)
    (hdb : (x == ("__debug__" : Str)) = false := by decide) (he : starEach (e :: es) X.env = (false, eval e X.env) :: starEach es X.env := by first | exact se_Name | exact se_Constant | exact se_BoolOp | exact se_BinOp | exact se_UnaryOp | exact se_IfExp | exact se_Dict | exact se_ListComp | exact se_Compare | exact se_Call | exact se_Attribute | exact se_Subscript | exact se_List | exact se_Tuple | exact se_JoinedStr | exact se_GeneratorExp)
    (hpl : (backTo pos (starEach es X.env)).any (·.1) = false := by repeat (first | exact ap_nil | refine ap_cons (by first | exact se_Name | exact se_Constant | exact se_BoolOp | exact se_BinOp | exact se_UnaryOp | exact se_IfExp | exact se_Dict | exact se_ListComp | exact se_Compare | exact se_Call | exact se_Attribute | exact se_Subscript | exact se_List | exact se_Tuple | exact se_JoinedStr | exact se_GeneratorExp) ?_)) :
    PEw X (.Call (.Name x p) (e :: es) [] pos) (tCall sp [] E0 t) := ⟨pe_fn F hr ha.p hg hdb he hpl⟩
theorem we_cB (hc : CallR X (.builtin id) rl) (hg : Gl X x) (hm : X.mg x = none) (hv : bootBuiltins x = some (.builtin id)) (ha : PAw X (e :: es) t) (hn : x ≠ "__name__" := by decide) (hdb : (x == ("__debug__" : Str)) = false := by decide)
    (he : starEach (e :: es) X.env = (false, eval e X.env) :: starEach es X.env := by first | exact se_Name | exact se_Constant | exact se_BoolOp | exact se_BinOp | exact se_UnaryOp | exact se_IfExp | exact se_Dict | exact se_ListComp | exact se_Compare | exact se_Call | exact se_Attribute | exact se_Subscript | exact se_List | exact se_Tuple | exact se_JoinedStr | exact se_GeneratorExp) (hpl : (backTo pos (starEach es X.env)).any (·.1) = false := by repeat (first | exact ap_nil | refine ap_cons (by first | exact se_Name | exact se_Constant | exact se_BoolOp | exact se_BinOp | exact se_UnaryOp | exact se_IfExp | exact se_Dict | exact se_ListComp | exact se_Compare | exact se_Call | exact se_Attribute | exact se_Subscript | exact se_List | exact se_Tuple | exact se_JoinedStr | exact se_GeneratorExp) ?_)) : PEw X (.Call (.Name x p) (e :: es) [] pos) (tCB rl t) :=
  ⟨pe_callB hc hg hm hv ha.p hn hdb he hpl⟩
theorem we_cT (hc : CallR X (.type T) rl) (hg : Gl X x) (hm : X.mg x = none) (hv : bootBuiltins x = some (.type T)) (ha : PAw X (e :: es) t) (hn : x ≠ "__name__" := by decide) (hdb : (x == ("__debug__" : Str)) = false := by decide)
    (he : starEach (e :: es) X.env = (false, eval e X.env) :: starEach es X.env := by first | exact se_Name | exact se_Constant | exact se_BoolOp | exact se_BinOp | exact se_UnaryOp | exact se_IfExp | exact se_Dict | exact se_ListComp | exact se_Compare | exact se_Call | exact se_Attribute | exact se_Subscript | exact se_List | exact se_Tuple | exact se_JoinedStr | exact se_GeneratorExp) (hpl : (backTo pos (starEach es X.env)).any (·.1) = false := by repeat (first | exact ap_nil | refine ap_cons (by first | exact se_Name | exact se_Constant | exact se_BoolOp | exact se_BinOp | exact se_UnaryOp | exact se_IfExp | exact se_Dict | exact se_ListComp | exact se_Compare | exact se_Call | exact se_Attribute | exact se_Subscript | exact se_List | exact se_Tuple | exact se_JoinedStr | exact se_GeneratorExp) ?_)) : PEw X (.Call (.Name x p) (e :: es) [] pos) (tCB rl t) :=
  ⟨pe_callTy hc hg hm hv ha.p hn hdb he hpl⟩
theorem we_bm {name : Str} {apos cpos : Pos} {r : V → List V → Hp → VK → Prop} (pa : PlainAttrs T) (slot : Slot T name id) (hty : typeOf (.builtin id) = pure (.type "method_descriptor")) (hm : MtR X id r) (ho : PEw X o to) (ha : PAw X (e :: es) t)
    (hbase : attributeBase o name X.env (eval o X.env) = eval o X.env := by rfl)
    (hfew : ((backTo cpos (starEach (e :: es) X.env)).all (fun x => !x.1) && (backToKw cpos (keywordEach [] X.env)).all (fun x => x.1.isSome)
      && decide ((e :: es).length + ([] : List Keyword).length + (if ([] : List Keyword).isEmpty then 0 else 1) < 30)) = true := by rfl)
    (hline : (apos.endLine == cpos.line) = true := by rfl) (hs : starEach (e :: es) X.env = (false, eval e X.env) :: starEach es X.env := by first | exact se_Name | exact se_Constant | exact se_BoolOp | exact se_BinOp | exact se_UnaryOp | exact se_IfExp | exact se_Dict | exact se_ListComp | exact se_Compare | exact se_Call | exact se_Attribute | exact se_Subscript | exact se_List | exact se_Tuple | exact se_JoinedStr | exact se_GeneratorExp) (hplain : (backTo cpos (starEach es X.env)).any (·.1) = false := by repeat (first | exact ap_nil | refine ap_cons (by first | exact se_Name | exact se_Constant | exact se_BoolOp | exact se_BinOp | exact se_UnaryOp | exact se_IfExp | exact se_Dict | exact se_ListComp | exact se_Compare | exact se_Call | exact se_Attribute | exact se_Subscript | exact se_List | exact se_Tuple | exact se_JoinedStr | exact se_GeneratorExp) ?_)) :
    PEw X (.Call (.Attribute o name apos) (e :: es) [] cpos) (tBM X.K T r to t) := ⟨pe_bm pa slot hty hm ho.p ha.p hbase hfew hline hs hplain⟩
/-! statements -/
theorem wss_nil : PSsw X [] tNext := ⟨pss_nil⟩
theorem wss_cons (h1 : PSw X st ts) (h2 : PSsw X sts us) : PSsw X (st :: sts) (tSeq ts us) := ⟨pss_cons h1.p h2.p⟩
theorem wss_one (h1 : PSw X st ts) : PSsw X [st] ts := ⟨pss_one h1.p⟩
theorem ws_expr (he : PEw X e te) (hs : swapsWith e none pos.line X.env = pure false := by rfl) : PSw X (.Expr e pos) (tDrop te) := ⟨ps_expr he.p hs⟩
theorem ws_ret (he : PEw X e te) : PSw X (.Return (some e) pos) (tRet te) := ⟨ps_ret he.p⟩
theorem ws_if {c : Expr} {a b : List Stmt} (hc : PTw X c tA) (ha : PSsw X a ts) (hb : PSsw X b us) : PSw X (.If c a b pos) (tIfS tA ts us) := ⟨ps_if hc.p ha.p hb.p⟩
theorem ws_cut (h : PSw X st ts) : PSw X st (tCut ts) := ⟨ps_cut h.p⟩
theorem wg_name {i : Nat} {x : Str} (hN : X.N.Nodup) (hi : X.N[i]? = some x) (hx : Loc X.env.scope x) (hf : X.fn x = true ∨ X.env.scope.names.lookup x = some .local := by first | exact .inl rfl | exact .inr rfl | assumption) : PGw X (.Name x pos) (gName i) := ⟨pg_name hN hi hx hf⟩
theorem wgs_nil : PGsw X [] gNil := ⟨pgs_nil⟩
theorem wgs_cons {t : TG} {u : TGs} (h1 : PGw X e t) (h2 : PGsw X es u)
    (hs : (assignEach (e :: es) X.env).map (·.2) = assign e X.env :: (assignEach es X.env).map (·.2) := by rfl) : PGsw X (e :: es) (gCons t u) := ⟨pgs_cons h1.p h2.p hs⟩
theorem wg_tup {k : Nat} {t : TGs} {n : Nat} (hc : X.calm = true) (h : PGsw X es t)
    (hn : (assignEach es X.env).length = n := by rfl) (hst : (assignEach es X.env).findIdx? (·.1) = none := by rfl) : PGw X (.Tuple es k pos) (gTup X.K n t) := ⟨pg_tup hc h.p hn hst⟩
theorem wg_sub {i : Expr} {ti : TE} {t : TSet} (ho : PEw X o to) (hi : PEw X i ti) (hs : PSet X t)
    (ha : ∀ v, assign (.Subscript o i pos) X.env v = (do
      let ov ← holding [v] (eval o X.env)
      let iv ← holding [v, ov] (eval i X.env)
      standAt pos
      holding [v, ov, iv] (setItem ov iv v)
      release [v, ov, iv] []) := by intro _; rfl) : PGw X (.Subscript o i pos) (gSub to ti t) := ⟨pg_sub ho.p hi.p hs ha⟩
theorem ws_asg {g : TG} (he : PEw X e te) (hg : PGw X tg g) (hs : swapsWithSole [tg] e pos.line X.env = pure false := by rfl) (hw : swappedStores [tg] e X.env = pure none := by rfl) (h1 : (assignEach [tg] X.env).map (·.2) = [assign tg X.env] := by rfl) : PSw X (.Assign [tg] e pos) (tAsg te g) := ⟨ps_asg he.p hg.p hs hw h1⟩
theorem ws_set {i : Nat} {pos' : Pos} (hN : X.N.Nodup) (hi : X.N[i]? = some x) (hx : Loc X.env.scope x) (he : PEw X e te) (hs : swapsWith e (some (.Name x pos')) pos.line X.env = pure false := by rfl) (hf : X.fn x = true ∨ X.env.scope.names.lookup x = some .local := by first | exact .inl rfl | exact .inr rfl | assumption) :
    PSw X (.Assign [.Name x pos'] e pos) (tAsg te (gName i)) := ⟨ps_set hN hi hx he.p hs hf⟩
theorem ws_par {i j : Nat} {x y : Str} {ta : TA} {px py pt : Pos} {kt k2 pt2} (hc : X.calm = true) (hN : X.N.Nodup) (hi : X.N[i]? = some x) (hj : X.N[j]? = some y) (hij : i ≠ j)
    (hx : X.env.scope.names.lookup x = some .local) (hy : X.env.scope.names.lookup y = some .local) (ha : PAw X [a, b] ta)
    (hw : swappedStores [.Tuple [.Name x px, .Name y py] kt pt] (.Tuple [a, b] k2 pt2) X.env = pure (some [x, y]))
    (hs : swapsWithSole [.Tuple [.Name x px, .Name y py] kt pt] (.Tuple [a, b] k2 pt2) pos.line X.env = pure false := by rfl) :
    PSw X (.Assign [.Tuple [.Name x px, .Name y py] kt pt] (.Tuple [a, b] k2 pt2) pos) (tPar i j ta) := ⟨ps_par hc hN hi hj hij hx hy ha.p hw hs⟩
theorem ws_while {c : Expr} {tc : TT} {tb : TS} (hp : PassesOwn (model X.prog X.w) X.A X.env X.xe) (hc : PTw X c tc) (hb : PSsw X body tb) : PSw X (.While c body [] pos) (tWhile (tMono tc) tb) := ⟨ps_whileM hp hc.p hb.p⟩
theorem wi_list {l : Expr} {tl : TE} (hl : PEw X l tl) : PIw X tg l (iList X.K tl) := ⟨pi_list hl.p⟩
theorem wi_tup {l : Expr} {tl : TE} (hl : PEw X l tl) : PIw X tg l (iTup X.K tl) := ⟨pi_tup hl.p⟩
theorem wi_range1 {a : Expr} {ta : TA} {p pos : Pos} (hg : Gl X "range") (hm : X.mg "range" = none) (ha : PAw X [a] ta) (hs : starEach [a] X.env = [(false, eval a X.env)] := by first | exact se_Name | exact se_Constant | exact se_BoolOp | exact se_BinOp | exact se_UnaryOp | exact se_IfExp | exact se_Dict | exact se_ListComp | exact se_Compare | exact se_Call | exact se_Attribute | exact se_Subscript | exact se_List | exact se_Tuple | exact se_JoinedStr | exact se_GeneratorExp) : PIw X tg (.Call (.Name "range" p) [a] [] pos) (iRng1 ta) := ⟨pi_range1 hg hm ha.p hs⟩
theorem wi_range2 {a b : Expr} {ta : TA} {p pos : Pos} (hg : Gl X "range") (hm : X.mg "range" = none) (ha : PAw X [a, b] ta) (hs : starEach [a, b] X.env = [(false, eval a X.env), (false, eval b X.env)] := by rfl) (hs2 : starEach [b] X.env = [(false, eval b X.env)] := by first | exact se_Name | exact se_Constant | exact se_BoolOp | exact se_BinOp | exact se_UnaryOp | exact se_IfExp | exact se_Dict | exact se_ListComp | exact se_Compare | exact se_Call | exact se_Attribute | exact se_Subscript | exact se_List | exact se_Tuple | exact se_JoinedStr | exact se_GeneratorExp) :
    PIw X tg (.Call (.Name "range" p) [a, b] [] pos) (iRng2 ta) := ⟨pi_range2 hg hm ha.p hs hs2⟩
theorem ws_for {iter : Expr} {wi : TI} {g : TG} {tb : TS} {pos : Pos} (hp : PassesOwn (model X.prog X.w) X.A X.env X.xe) (hc : X.calm = true) (hi : PIw X tg iter wi) (hg : PGw X tg g) (hb : PSsw X body tb)
    (hs : ∀ x, foldedSetIterable iter X.env x = pure x := by intro _; rfl) : PSw X (.For tg iter body [] pos) (tFor wi g tb) := ⟨ps_for hp hc hi.p hg.p hb.p hs⟩
end
/-- THE RULE for a def, over the shut judgement -/
theorem Fun.okw {P : Program} {w : World} {K : PySem.W.Frag} {mg : Str → Option Value} {base : Heap} {x qual : Str} {st : Stmt} {f : Addr} {fd : FuncData} {N ps : List Str} {k : Nat} {sp : Sp} (F : Fun K x qual st f fd) (S : FnScope N ps (defScope st)) (len : ∀ vs H Q E, sp vs H Q E → vs.length = ps.length)
    (hbody : ∀ (cdv : Value) (A : Around) (outer : List Env) (s : Shared) (H : Hp) (vs : List V) (Q : VK) (E : XK), Room k (A.deeper (envOfC qual (defScope st) s.heap.objs.size f cdv)) → sp vs H Q E →
      ∃ t, PSsw (cxOf CX0 P w K mg base N qual (defScope st) f cdv A outer s H E).nox (defBody st) t ∧ t { nx := fun _ H' => Q .non H', rt := Q } (start N vs) H) : FnOk P w K mg base CX0 (k + 1) f fd ps sp :=
  F.ok S len fun cdv A outer s H vs Q E hr h => by
    obtain ⟨t, h1, h2⟩ := hbody cdv A outer s H vs Q E hr h
    exact ⟨t, h1.p, h2⟩
end L2
set_option Elab.async false
set_option linter.all false
set_option maxRecDepth 100000
namespace L2
open PySem PySem.Spec PyProof.Rows
/-! ### Euclid -/
theorem gcd_step (a b : Int) : Int.gcd b (a % b) = Int.gcd a b := by
  have h := Int.gcd_add_mul_right_right b (a % b) (a / b)
  rw [show a % b + a / b * b = a from by have := Int.emod_add_mul_ediv a b; rw [Int.mul_comm]; exact this] at h
  rw [← h, Int.gcd_comm]
theorem gcd_end {a : Int} (h : 0 < a) : (Int.gcd a 0 : Int) = a := by rw [Int.gcd_zero_right]; (first | lia | omega)
section
variable {H : Hp} {x : V} {d : PyData} {Q : VK}
end
theorem RepL.len {H : Hp} : ∀ {ds : List PyData} {vs : List V}, RepL H ds vs → vs.length = ds.length
  | [], _, h => by cases (show _ = [] from h); rfl
  | d :: ds, _, h => by
    unfold RepL at h
    obtain ⟨x, xs, rfl, _, h2⟩ := h
    simp [RepL.len h2]
section
variable {p : Addr} {σ : St} {t : TE} {ta : TA} {d : PyData} {ds : List PyData}
end
/-! ### an item at an open place -/
theorem atI_mem {α : Type} {xs : List α} {x : Int} (h0 : 0 ≤ x) (h1 : x < xs.length) : ∃ v, atI xs x = some v ∧ v ∈ xs ∧ xs[x.toNat]? = some v := by
  have h : x.toNat < xs.length := by (first | lia | omega)
  have e := List.getElem?_eq_getElem h
  have := atI_nat e
  rw [Int.toNat_of_nonneg h0] at this
  exact ⟨_, this, List.getElem_mem h, e⟩
theorem RepL.append {H : Hp} {es : List PyData} {ws : List V} (h' : RepL H es ws) : ∀ {ds : List PyData} {vs : List V}, RepL H ds vs → RepL H (ds ++ es) (vs ++ ws)
  | [], _, h => by cases (show _ = [] from h); exact h'
  | d :: ds, _, h => by
    unfold RepL at h
    obtain ⟨x, xs, rfl, h1, h2⟩ := h
    exact RepL.cons h1 (RepL.append h' h2)
end L2
namespace L2
end L2
namespace L2
open PySem PySem.Spec PyProof.Rows
/-- what stood ahead of l's making is as it was, whatever became of l -/
theorem Same.thru {l : Addr} {H0 H1 H2 : Hp} (hl : H0 l = none) (s : Same H0 H1) (b : SameBut l H1 H2) : Same H0 H2 := fun c o e => by
  have n : c ≠ l := ne_of_none e hl
  exact b.at n (s _ _ e)
theorem catL {H : Hp} {l b : Addr} {xs zs : List V} {Q : VK} (h1 : H l = some (.lst xs)) (h2 : H b = some (.lst zs)) (hz : xs.length + zs.length ≤ 1000) (k : ∀ q H', H q = none → H' q = some (.lst (xs ++ zs)) → Same H H' → Q (.ref q) H') : rCat (.ref l) (.ref b) H Q :=
  ⟨l, b, xs, zs, rfl, rfl, h1, h2, Nat.le_of_lt (small1000 hz), fun q hq => k q _ hq upd_same (Same.upd hq)⟩
@[irreducible] def rApp : V → List V → Hp → VK → Prop := rAppend
theorem mt_app {X : Cx} : MtR X "list.append" rApp := by unfold rApp; exact mt_append
theorem appL {H : Hp} {l : Addr} {xs : List V} {y : V} {Q : VK} (h : H l = some (.lst xs)) (hz : xs.length ≤ 1000) (k : ∀ H', H' l = some (.lst (xs ++ [y])) → SameBut l H H' → Q .non H') : rApp (.ref l) [y] H Q := by
  unfold rApp; exact ⟨l, xs, y, rfl, rfl, h, small1000 hz, k _ upd_same SameBut.self⟩
theorem tyL {K : PySem.W.Frag} {H : Hp} {l : Addr} {xs : List V} (h : H l = some (.lst xs)) : tyV K "list" (.ref l) H := .inl ⟨rfl, xs, SqL.of h⟩
end L2
set_option Elab.async false
set_option linter.all false
set_option maxRecDepth 100000
namespace L2
open PySem PySem.Spec PyProof.Rows
/-! ### a list's comprehension over one source, its name plain -/
def closL (env : Env) : List (Str × NameKind) → List (Str × Addr) → List (Str × Addr)
  | [], cs => cs
  | (n, k) :: r, cs => if k == .free then closL env r ((n, (env.cells.lookup n).getD 0) :: cs) else closL env r cs
theorem clos_eq (env : Env) : ∀ (l : List (Str × NameKind)) (cs : List (Str × Addr)), (∀ y ∈ l, y.2 = .free → ∃ c, env.cells.lookup y.1 = some c) →
    (forIn l cs fun (x : Str × NameKind) r => if x.2 == .free then (do let c ← cellOf env x.1; pure (ForInStep.yield ((x.1, c) :: r)) : Sem _) else pure (ForInStep.yield r)) = pure (closL env l cs)
  | [], cs, _ => rfl
  | (n, k) :: r, cs, h => by
    rw [List.forIn_cons]
    have ih := fun cs => clos_eq env r cs fun y hy => h y (List.mem_cons_of_mem _ hy)
    by_cases hk : (k == NameKind.free) = true
    · obtain ⟨c, hc⟩ := h (n, k) List.mem_cons_self (by simpa using hk)
      dsimp only at hc
      simp only [hk, if_true, closL, hc, Option.getD_some, cellOf, pure_bind]
      exact ih _
    · simp only [hk, closL, pure_bind]
      exact ih _
theorem closureFor_eq {env : Env} {scope : Scope} (h : ∀ y ∈ scope.names, y.2 = .free → ∃ c, env.cells.lookup y.1 = some c) : closureFor scope env = pure (closL env scope.names []) := by
  have e := clos_eq env scope.names [] h
  unfold closureFor
  simp only [bind_pure]
  exact e
theorem closL_mem {env : Env} : ∀ (l : List (Str × NameKind)) (cs : List (Str × Addr)), (∀ y ∈ l, y.2 = .free → ∃ c, env.cells.lookup y.1 = some c) → ∀ p ∈ closL env l cs, p ∈ cs ∨ env.cells.lookup p.1 = some p.2
  | [], cs, _, p, hp => .inl hp
  | (n, k) :: r, cs, h, p, hp => by
    have h' : ∀ y ∈ r, y.2 = .free → ∃ c, env.cells.lookup y.1 = some c := fun y hy => h y (List.mem_cons_of_mem _ hy)
    unfold closL at hp
    by_cases hk : (k == NameKind.free) = true
    · rw [if_pos hk] at hp
      obtain ⟨c, hc⟩ := h (n, k) List.mem_cons_self (by simpa using hk)
      rcases closL_mem r _ h' p hp with hm | hm
      · rcases List.mem_cons.mp hm with rfl | hm
        · exact .inr (by dsimp only at hc ⊢; rw [hc]; rfl)
        · exact .inl hm
      · exact .inr hm
    · rw [if_neg hk] at hp
      exact closL_mem r cs h' p hp
theorem closL_acc {env : Env} : ∀ (l : List (Str × NameKind)) (cs : List (Str × Addr)), ∀ p ∈ cs, p ∈ closL env l cs
  | [], _, _, hp => hp
  | (n, k) :: r, cs, p, hp => by
    unfold closL
    by_cases hk : (k == NameKind.free) = true
    · rw [if_pos hk]; exact closL_acc r _ p (List.mem_cons_of_mem _ hp)
    · rw [if_neg hk]; exact closL_acc r _ p hp
theorem closL_has {env : Env} : ∀ (l : List (Str × NameKind)) (cs : List (Str × Addr)) (y : Str), (y, NameKind.free) ∈ l → ∃ a, (y, a) ∈ closL env l cs
  | (n, k) :: r, cs, y, hy => by
    unfold closL
    rcases List.mem_cons.mp hy with e | hm
    · cases e
      rw [if_pos (by rfl)]
      exact ⟨_, closL_acc r _ _ List.mem_cons_self⟩
    · by_cases hk : (k == NameKind.free) = true
      · rw [if_pos hk]; exact closL_has r _ y hm
      · rw [if_neg hk]; exact closL_has r _ y hm
theorem lookup_mem {α β : Type} [BEq α] [LawfulBEq α] {x : α} {c : β} : ∀ {l : List (α × β)}, l.lookup x = some c → (x, c) ∈ l
  | [], h => by cases h
  | (a, b) :: r, h => by
    rw [List.lookup_cons] at h
    by_cases e : (x == a) = true
    · rw [e] at h
      have : x = a := by simpa using e
      subst this
      cases h
      exact List.mem_cons_self
    · have e' : (x == a) = false := by simpa using e
      rw [e'] at h
      exact List.mem_cons_of_mem _ (lookup_mem h)
theorem mem_lookup {α β : Type} [BEq α] [LawfulBEq α] {x : α} {c : β} : ∀ {l : List (α × β)}, (x, c) ∈ l → ∃ c', l.lookup x = some c'
  | (a, b) :: r, h => by
    rw [List.lookup_cons]
    by_cases e : (x == a) = true
    · rw [e]; exact ⟨_, rfl⟩
    · have e' : (x == a) = false := by simpa using e
      rw [e']
      rcases List.mem_cons.mp h with q | q
      · cases q; simp at e
      · exact mem_lookup q
def clOf (X : Cx) (scope : Scope) : List (Str × Addr) := closL X.env scope.names []
theorem clOf_env {X : Cx} {scope : Scope} (h : ∀ y ∈ scope.names, y.2 = .free → ∃ c, X.env.cells.lookup y.1 = some c) {x : Str} {c : Addr} (e : (clOf X scope).lookup x = some c) : X.env.cells.lookup x = some c := by
  rcases closL_mem scope.names [] h _ (lookup_mem e) with hm | hm
  · cases hm
  · exact hm
theorem clOf_has {X : Cx} {scope : Scope} (h : ∀ y ∈ scope.names, y.2 = .free → ∃ c, X.env.cells.lookup y.1 = some c) {x : Str} (hx : (x, NameKind.free) ∈ scope.names) {c : Addr} (e : X.env.cells.lookup x = some c) : (clOf X scope).lookup x = some c := by
  obtain ⟨a, ha⟩ := closL_has (env := X.env) scope.names [] x hx
  obtain ⟨c', hc'⟩ := mem_lookup ha
  have := clOf_env h hc'
  rw [e] at this
  cases this
  exact hc'
/-- the context of the block -/
def cxC (X : Cx) (scope : Scope) (C : Addr) (fp : List Addr) (s₀ : Shared) (H₀ : Hp) (N' : List Str) : Cx where
  prog := X.prog
  w := X.w
  K := X.K
  mg := X.mg
  base := X.base
  A := X.A
  N := N'
  s₀ := s₀
  H₀ := H₀
  env := compEnvC scope (clOf X scope) C X.env
  outer := X.stack
  stack := X.stack
  ex := fp
  fn := fun _ => false
  calm := true
  pn := []
  xe := fun _ _ => False
def slots (σ : St) (js : List Nat) : St := js.map fun j => (σ[j]?).getD none
/-- the tests of a comprehension -/
def PTs (X : Cx) (ifs : List Expr) (t : TT) : Prop :=
  ∀ (pins : List (Addr × Obj)) (s : Shared) (σ : St) (H : Hp) (Q : Bool → Hp → Prop), Inv X pins σ H s → t σ H Q →
    wpAny (model X.prog X.w) X.A (forIn ifs true fun c r => if r = true then do let ok ← isTrue c X.env (eval c X.env); pure (ForInStep.yield ok) else pure (ForInStep.yield r)) (TP X pins σ Q) X.xe s
def tYes : TT := fun _ H Q => Q true H
theorem pts_nil {X : Cx} : PTs X [] tYes := fun pins s σ H Q I h => wpAny_tests_nil ⟨H, I, h⟩
theorem pts_one {X : Cx} {c : Expr} {t : TT} (h : PT X c t) : PTs X [c] t := fun pins s σ H Q I q => wpAny_tests_one (h pins s σ H Q I q)
def tComp (wi : TI) (js : List Nat) (tc : TT) (te : TE) : TE := fun σ H Q => wi σ H fun J H1 => ∀ D, H1 D = none → ∃ W : Nat → Nat → List V → Hp → Prop, (∃ m, W 0 m [] (upd H1 D (.lst []))) ∧
  ∀ i m ys H2, W i m ys H2 → H2 D = some (.lst ys) ∧ ((J.stop i H2 ∧ Q (.ref D) H2) ∨ (J.go i H2 ∧ ys.length < sizeLine ∧ ∀ x H3, J.yld i H2 x H3 →
    tc (some x :: slots σ js) H3 fun b H4 => if b = true then te (some x :: slots σ js) H4 fun y H5 => H5 D = some (.lst ys) ∧ ∃ m', m' < m ∧ W (i + 1) m' (ys ++ [y]) (upd H5 D (.lst (ys ++ [y])))
      else H4 D = some (.lst ys) ∧ ∃ m', m' < m ∧ W (i + 1) m' ys H4))
/-- what of the scope is asked -/
structure CScope (X : Cx) (scope : Scope) (x : Str) (N' : List Str) (js : List Nat) : Prop where
  calm : X.calm = true
  free : ∀ y ∈ scope.names, y.2 = .free → X.env.kindOf y.1 = some .cell
  cell : ∀ y ∈ scope.names, y.2 ≠ .cell
  kind : scope.kind = .function
  names : ∀ y ∈ scope.names, y.2 = .local → scope.names.lookup y.1 = some .local
  own : scope.names.lookup x = some .local
  nofl : ∀ y, (y, NameKind.free) ∈ scope.names → scope.names.lookup y = some .local → False
  len : N'.length = js.length + 1
  zero : N'[0]? = some x
  nd : N'.Nodup
  slot : ∀ (i : Nat) (j : Nat), js[i]? = some j → ∃ y, N'[i + 1]? = some y ∧ X.N[j]? = some y ∧ (y, NameKind.free) ∈ scope.names
end L2
set_option Elab.async false
set_option linter.all false
set_option maxRecDepth 100000
namespace L2
open PySem PySem.Spec PyProof.Rows
section
variable {X : Cx} {pins : List (Addr × Obj)} {σ : St} {H : Hp} {s : Shared} {scope : Scope} {x : Str} {N' : List Str} {js : List Nat} {fp : List Addr}
theorem CScope.cells (S : CScope X scope x N' js) (ok : X.Ok) : ∀ y ∈ scope.names, y.2 = .free → ∃ c, X.env.cells.lookup y.1 = some c := fun y hy hf => ok.has _ (.inl (S.free y hy hf))
theorem relabel_cases {env : Env} : ∀ {names : List (Str × NameKind)} {y : Str} {k : NameKind}, (names.map fun (n, k) => if (k == NameKind.free && env.scope.kind == .function && env.kindOf n == some .cell) then (n, NameKind.cell) else (n, k)).lookup y = some k →
    (k = .cell ∨ k = .free) → (∀ z ∈ names, z.2 ≠ .cell) → (y, NameKind.free) ∈ names
  | [], _, _, h, _, _ => by cases h
  | (n, q) :: r, y, k, h, hk, hc => by
    rw [List.map_cons, List.lookup_cons] at h
    have ih := fun h => @relabel_cases env r y k h hk fun z hz => hc z (List.mem_cons_of_mem _ hz)
    by_cases hq : (q == NameKind.free && env.scope.kind == .function && env.kindOf n == some .cell) = true
    · dsimp only at h
      rw [if_pos hq] at h
      have qf : q = .free := by
        rw [Bool.and_eq_true, Bool.and_eq_true] at hq
        simpa using hq.1.1
      subst qf
      by_cases e : (y == n) = true
      · have : y = n := by simpa using e
        subst this
        exact List.mem_cons_self
      · have e' : (y == n) = false := by simpa using e
        dsimp only at h
        rw [e'] at h
        exact List.mem_cons_of_mem _ (ih h)
    · dsimp only at h
      rw [if_neg hq] at h
      by_cases e : (y == n) = true
      · have : y = n := by simpa using e
        subst this
        dsimp only at h
        rw [e] at h
        have hkq : k = q := by injection h with h; exact h.symm
        subst hkq
        rcases hk with rfl | rfl
        · exact absurd rfl (hc _ List.mem_cons_self)
        · exact List.mem_cons_self
      · have e' : (y == n) = false := by simpa using e
        dsimp only at h
        rw [e'] at h
        exact List.mem_cons_of_mem _ (ih h)
theorem cxC_ok (S : CScope X scope x N' js) (I : Inv X pins σ H s) (hf : ∀ b ∈ fp, FpOk X pins H b) (hb : ∀ b ∈ fp, b < s.heap.objs.size) : (cxC X scope s.heap.objs.size fp s H N').Ok where
  mod := I.ok.mod
  kind := S.kind
  glob := I.ok.glob
  blt := I.ok.blt
  above := Nat.le_refl _
  inj := fun y z c h1 h2 => I.ok.inj y z c (clOf_env (S.cells I.ok) h1) (clOf_env (S.cells I.ok) h2)
  has := fun y hy => by
    have hm : (y, NameKind.free) ∈ scope.names := by
      rcases hy with hy | hy
      · exact relabel_cases (env := X.env) hy (.inl rfl) S.cell
      · exact relabel_cases (env := X.env) hy (.inr rfl) S.cell
    obtain ⟨c, hc⟩ := S.cells I.ok _ hm rfl
    exact ⟨c, clOf_has (S.cells I.ok) hm hc⟩
  cab := fun _ _ h => by cases h
  hd := fun _ => I.ok.hd S.calm
  frames := I.ok.frames
  stk := .inl rfl
  exf := fun b hb' => ⟨fun e => by have := hb b hb'; rw [e] at this; exact Nat.lt_irrefl _ this, fun y c h => (hf b hb').2.2.2.2.1 y c (clOf_env (S.cells I.ok) h)⟩
  bs := I.bs
  bsz := Nat.le_trans I.ok.bsz I.sz
  noex := fun b o e hb' => by
    rcases (hf b hb').2.2.2.1 with h | h
    · exact I.ok.noex b o e h
    · exact absurd (Nat.lt_of_lt_of_le (Heap.lt_size e) (Nat.le_trans I.ok.bsz h)) (Nat.lt_irrefl _)
  exfs := fun b hb' hs => by
    have h2 := I.stkSub b hs
    rcases List.mem_cons.mp h2 with h2 | h2
    · exact (hf b hb').2.1 h2
    · exact (hf b hb').2.2.1 h2
  funs := I.stack
  frf := I.stkFree
theorem slots_get {i j : Nat} (h : js[i]? = some j) : (slots σ js)[i]? = some ((σ[j]?).getD none) := by
  unfold slots; rw [List.getElem?_map, h]; rfl
/-- the block begins -/
theorem cxC_inv {h' : Heap} {tk : Nat} (S : CScope X scope x N' js) (I : Inv X pins σ H s) (hf : ∀ b ∈ fp, FpOk X pins H b) (hb : ∀ b ∈ fp, b < s.heap.objs.size)
    (hn : h'.Ns s.heap.objs.size (fun _ => none)) (hk : ∀ b o, s.heap.get? b = some o → h'.get? b = some o) : Inv (cxC X scope s.heap.objs.size fp s H N') [] (none :: slots σ js) H { s with heap := h', toks := tk } where
  ok := cxC_ok S I hf hb
  os := rfl
  bare := I.bare
  base := Un.kept hk
  loc := by
    refine ⟨_, hn, fun i y v hi hv hvis => ?_⟩
    cases i with
    | zero => cases hv
    | succ i =>
      have hv' : (slots σ js)[i]? = some (some v) := hv
      have hlt : i < js.length := by
        have := (List.getElem?_eq_some_iff.mp hv').1
        unfold slots at this
        rwa [List.length_map] at this
      have hj : js[i]? = some js[i] := List.getElem?_eq_getElem hlt
      obtain ⟨z, h1, h2, h3⟩ := S.slot i _ hj
      have hzy : z = y := by
        have : N'[i + 1]? = some y := hi
        rw [h1] at this; cases this; rfl
      subst hzy
      rw [slots_get hj] at hv'
      have hσ : σ[js[i]]? = some (some v) := by
        cases q : σ[js[i]]? with
        | none => rw [q] at hv'; cases hv'
        | some o => rw [q] at hv'; cases hv'; rfl
      have hkc : X.env.kindOf z = some .cell := S.free _ h3 rfl
      obtain ⟨m, hm, hl⟩ := I.loc
      obtain ⟨u, ru, lk⟩ := hl _ z v h2 hσ (.inr (.inl hkc))
      rcases lk with ⟨hk1, _⟩ | ⟨_, c, hc, hcell⟩
      · rw [hkc] at hk1; cases hk1
      · refine ⟨u, ru, .inr ⟨?_, c, clOf_has (S.cells I.ok) h3 hc, ?_⟩⟩
        · rcases hvis with hvis | hvis | hvis
          · exfalso
            have hcl := clOf_has (S.cells I.ok) h3 hc
            -- a name that is free in the scope is not local there
            have hm2 := lookup_mem (l := (relabel scope X.env).names) hvis
            unfold relabel at hm2
            obtain ⟨⟨n, k⟩, hmem, he⟩ := List.mem_map.mp hm2
            dsimp only at he
            by_cases hq : (k == NameKind.free && X.env.scope.kind == .function && X.env.kindOf n == some .cell) = true
            · rw [if_pos hq] at he; cases he
            · rw [if_neg hq] at he
              cases he
              have := S.names _ hmem rfl
              have l2 := mem_lookup h3
              obtain ⟨c', l2⟩ := l2
              dsimp only at this
              rw [this] at l2
              have key : (relabel scope X.env).names.lookup z = some .local := lookup_relabel_local this
              have hck : scope.names.lookup z = some .local := this
              exact S.nofl z h3 hck
          · exact .inl hvis
          · exact .inr hvis
        · obtain ⟨o, e, r⟩ := hcell
          exact ⟨o, hk _ _ e, r⟩
  cell := fun y c h => by
    obtain ⟨v, o, e, r⟩ := I.cell y c (clOf_env (S.cells I.ok) h)
    exact ⟨v, o, hk _ _ e, r⟩
  free := I.hok.fresh (Nat.le_refl _)
  freeC := fun y c h => I.freeC y c (clOf_env (S.cells I.ok) h)
  pin := fun p hp => by cases hp
  hok := I.hok.kept hk
  len := by
    show (slots σ js).length + 1 = N'.length
    unfold slots
    rw [List.length_map, S.len]
/-- all but an untracked place is kept -/
theorem HOk.but {P : Program} {w : World} {H : Hp} {h h' : Heap} {C : Addr} (x : HOk P w H h) (hC : H C = none) (k : ∀ b u, b ≠ C → h.get? b = some u → h'.get? b = some u) : HOk P w H h' := fun a o e =>
  (x a o e).stay (fun b u hb q => k b u (by
    rcases hb with rfl | hb
    · exact ne_of_none e hC
    · exact ne_of_none hb hC) q) (fun _ q => q) fun _ _ q => q
/-- the block's end, for the def around it -/
theorem cxC_back {H2 : Hp} {σ' : St} {s2 : Shared} {h'' : Heap} (S : CScope X scope x N' js) (I : Inv X pins σ H s) (hf : ∀ b ∈ fp, FpOk X pins H b)
    (J : Inv (cxC X scope s.heap.objs.size fp s H N') [] σ' H2 s2) (hs : Heap.SameBut s.heap.objs.size s2.heap h'') : Inv X pins σ H2 { s2 with heap := h'' } := by
  have hC : H2 s.heap.objs.size = none := J.free
  have ne : ∀ {b : Addr} {o : Obj}, s.heap.get? b = some o → b ≠ s.heap.objs.size := fun e q => by
    have := Heap.lt_size e; rw [q] at this; exact Nat.lt_irrefl _ this
  refine I.call' (s' := { s2 with heap := h'' }) (ch := fp) (by rw [show ({ s2 with heap := h'' } : Shared).os = s2.os from rfl]; exact J.os) ?_ (J.hok.but hC fun b u hb q => hs.extBut b u hb q) J.bare fun b hb => ⟨(hf b hb).2.2.2.1, (hf b hb).2.1, (hf b hb).2.2.2.2.1, (hf b hb).2.2.2.2.2⟩
  have U := J.base
  exact {
    keep := fun b o e n h1 h2 => hs.extBut b o (ne e) (U.keep b o e n h1 h2)
    slot := fun b o e n h1 h2 => by
      obtain ⟨sl, q⟩ := U.slot b o e n h1 h2
      exact ⟨sl, hs.extBut b _ (ne e) q⟩
    free := U.free
    there := fun b o e h2 => by
      obtain ⟨o', q⟩ := U.there b o e h2
      exact ⟨o', hs.extBut b _ (ne e) q⟩
    tups := U.tups
    frzs := U.frzs
    tbls := U.tbls }
end
end L2
set_option Elab.async false
set_option linter.all false
set_option maxRecDepth 100000
namespace L2
open PySem PySem.Spec PyProof.Rows
abbrev NoX : Value → Shared → Prop := fun _ _ => False
theorem compLoop_gen {prog : Program} {w : World} {A : Around} {R : Result → Shared → Prop} {s : Shared} {elt target iter : Expr} {ifs : List Expr} {scope : Scope} {pos : Pos} {it acc : Value} {env : Env} (I : Nat → Shared → Prop)
    (turn : ∀ n s, I n s → wpAny (model prog w) A (pyNext it) (fun r s₁ => match r with
      | none => R (.ok .next) s₁
      | some v => wpAny (model prog w) A (letOwnedTupleGo target it v) (fun _ s₁' => wpAny (model prog w) A (assign target env v) (fun _ s₂ =>
          wpAny (model prog w) A (forIn ifs true fun c r => if r = true then do let ok ← isTrue c env (eval c env); pure (ForInStep.yield ok) else pure (ForInStep.yield r)) (fun ok s₃ =>
            if ok = true then wpAny (model prog w) A (eval elt env) (fun x s₄ => wpAny (model prog w) A (call (.builtin "list.append") [acc, x]) (fun _ s₅ => ∃ m, m < n ∧ I m s₅) NoX s₄) NoX s₃
            else ∃ m, m < n ∧ I m s₃) NoX s₂) NoX s₁') NoX s₁) NoX s)
    (n : Nat) (h : I n s) : codeAny (model prog w) A (.compLoop (.ListComp elt [⟨target, iter, ifs, 0⟩] scope pos) 0 it acc env) R s := by
  refine codeAny_loop rfl I (fun n s hI => ?_) n h
  show wpAny _ A ((compTurn (.ListComp elt [⟨target, iter, ifs, 0⟩] scope pos) 0 it acc env).onRaise (fun x => do noteFrame x env; theTreesLotGoes x)) _ _ s
  refine wpAny_noted ?_
  rw [compTurn_list]
  refine wpAny_bind (wpAny_standAt (wpAny_bind (wpAny_mono (turn n s hI) (fun r s₁ h₁ => ?_) fun _ _ h' => h'.elim)))
  cases r with
  | none => exact wpAny_pure h₁
  | some v =>
    refine wpAny_bind (wpAny_mono h₁ (fun _ s₁' h₁' => ?_) fun _ _ h' => h'.elim)
    refine wpAny_bind (wpAny_mono h₁' (fun _ s₂ h₂ => wpAny_bind (wpAny_mono h₂ (fun ok s₃ h₃ => ?_) fun _ _ h' => h'.elim)) fun _ _ h' => h'.elim)
    cases ok with
    | false => exact wpAny_pure ⟨rfl, h₃⟩
    | true =>
      exact wpAny_bind (wpAny_bind (wpAny_mono h₃ (fun x s₄ h₄ => wpAny_bind (wpAny_mono h₄ (fun _ s₅ h₅ => wpAny_pure (wpAny_pure ⟨rfl, h₅⟩)) fun _ _ h' => h'.elim)) fun _ _ h' => h'.elim))
section
variable {X : Cx} {pins : List (Addr × Obj)} {σ : St} {H : Hp} {s : Shared} {scope : Scope} {x : Str} {N' : List Str} {js : List Nat} {fp : List Addr} {elt iter : Expr} {px pos : Pos} {ifs : List Expr} {tc : TT} {te : TE}
theorem comp_block {J : It} {it : Addr} {tn : Nat → Heap → Prop} {RR : Value → Addr → Result → Shared → Prop} {E : Value → Shared → Prop} {Q : VK}
    (S : CScope X scope x N' js) (I : Inv X pins σ H s) (T : Turn X.prog X.w X.K (.Name x px) J fp it tn) (h0 : tn 0 s.heap) (hf : ∀ b ∈ fp, FpOk X pins H b)
    (ht : ∀ C fp s₀ H₀, PTs (cxC X scope C fp s₀ H₀ N') ifs tc) (he : ∀ C fp s₀ H₀, PE (cxC X scope C fp s₀ H₀ N') elt te)
    (R : ∀ D, H D = none → ∃ W : Nat → Nat → List V → Hp → Prop, (∃ m, W 0 m [] (upd H D (.lst []))) ∧
      ∀ i m ys H2, W i m ys H2 → H2 D = some (.lst ys) ∧ ((J.stop i H2 ∧ Q (.ref D) H2) ∨ (J.go i H2 ∧ ys.length < sizeLine ∧ ∀ x H3, J.yld i H2 x H3 →
        tc (some x :: slots σ js) H3 fun b H4 => if b = true then te (some x :: slots σ js) H4 fun y H5 => H5 D = some (.lst ys) ∧ ∃ m', m' < m ∧ W (i + 1) m' (ys ++ [y]) (upd H5 D (.lst (ys ++ [y])))
          else H4 D = some (.lst ys) ∧ ∃ m', m' < m ∧ W (i + 1) m' ys H4)))
    (hRR : ∀ (D : Addr) (H3 : Hp) (s3 : Shared) (σ' : St) (H' : Hp) (s' : Shared), Inv X pins σ H3 s3 → (∀ b ∈ fp, FpOk X pins H3 b) → Inv (cxC X scope s3.heap.objs.size fp s3 H3 N') [] σ' H' s' → Q (.ref D) H' → RR (.ref D) s3.heap.objs.size (.ok .next) s') :
    wpAny (model X.prog X.w) X.A (newList []) (fun acc s₃ => wpAny (model X.prog X.w) X.A (newFunctionEnv scope X.env.globals (clOf X scope) [] X.env.qual none .none (some X.env)) (fun cenv s₄ =>
      codeAny (model X.prog X.w) X.A (.compStart (.ListComp elt [⟨.Name x px, iter, ifs, 0⟩] scope pos) 0 (.ref it) acc { cenv with scope := relabel scope X.env }) (RR acc cenv.locals) s₄) E s₃) E s := by
  have hb : ∀ b ∈ fp, b < s.heap.objs.size := fun b hb => by
    obtain ⟨o, e, _⟩ := T.obj 0 _ h0 b hb
    exact Heap.lt_size e
  refine wpAny_newObj_type (wpAny_newFunctionEnv S.cell (by intro y hy; simp at hy) (fun h₁ hns₁ hsb₁ => ?_) S.kind)
  have hDn : H s.heap.objs.size = none := I.hok.fresh (Nat.le_refl _)
  obtain ⟨W, ⟨m0, hw0⟩, hW⟩ := R _ hDn
  have I3 : Inv X pins σ (upd H s.heap.objs.size (.lst [])) { s with heap := s.heap.push { cls := .type "list", dict := none, data := .seq ([] : List Value).toArray } } := I.lnew (its := []) (ys := []) (t' := s.toks) .nil (Nat.zero_le _)
  have hf3 : ∀ b ∈ fp, FpOk X pins (upd H s.heap.objs.size (.lst [])) b := fun b hb' =>
    ⟨by rw [upd_ne (fun e => by have := hb b hb'; rw [e] at this; exact Nat.lt_irrefl _ this)]; exact (hf b hb').1, (hf b hb').2⟩
  have hb3 : ∀ b ∈ fp, b < (s.heap.push { cls := .type "list", dict := none, data := .seq ([] : List Value).toArray }).objs.size := fun b hb' => by
    rw [Heap.size_push]; exact Nat.lt_succ_of_lt (hb b hb')
  have hkeep : ∀ b o, (s.heap.push { cls := .type "list", dict := none, data := .seq ([] : List Value).toArray }).get? b = some o → h₁.get? b = some o := fun b o e =>
    hsb₁.extBut b o (fun q => by have := Heap.lt_size e; rw [q] at this; exact Nat.lt_irrefl _ this) (Heap.get?_push_of_some _ e)
  have J4 := cxC_inv (h' := h₁) (tk := s.toks + ([] : List (Str × Value)).length) S I3 hf3 hb3 hns₁ hkeep
  have t4 : tn 0 h₁ := T.keep 0 _ _ h0 fun b hb' o e => hkeep b o (Heap.get?_push_of_some _ e)
  have loop : codeAny (model X.prog X.w) X.A (.compLoop (.ListComp elt [⟨.Name x px, iter, ifs, 0⟩] scope pos) 0 (.ref it) (.ref s.heap.objs.size) (compEnvC scope (clOf X scope) (s.heap.push { cls := .type "list", dict := none, data := .seq ([] : List Value).toArray }).objs.size X.env))
      (RR (.ref s.heap.objs.size) (s.heap.push { cls := .type "list", dict := none, data := .seq ([] : List Value).toArray }).objs.size) { s with heap := h₁, toks := s.toks + ([] : List (Str × Value)).length } := by
    refine compLoop_gen (fun n s' => ∃ (i : Nat) (ys : List V) (H2 : Hp) (o : Option V), Inv (cxC X scope _ fp _ _ N') [] (o :: slots σ js) H2 s' ∧ tn i s'.heap ∧ (∀ b ∈ fp, H2 b = none) ∧ W i n ys H2) ?_ m0 ⟨0, [], _, none, J4, t4, fun b hb' => (hf3 b hb').1, hw0⟩
    rintro n s' ⟨i, ys, H2, o, J2, t2, f2, w2⟩
    obtain ⟨hD, hcase⟩ := hW i n ys H2 w2
    have Fp : ∀ b ∈ fp, FpOk (cxC X scope (s.heap.push { cls := .type "list", dict := none, data := .seq ([] : List Value).toArray }).objs.size fp { s with heap := s.heap.push { cls := .type "list", dict := none, data := .seq ([] : List Value).toArray } } (upd H s.heap.objs.size (.lst [])) N') [] H2 b := fun b hb' =>
      ⟨f2 b hb', (J2.ok.exf b hb').1, J2.ok.exfs b hb', .inl hb', (J2.ok.exf b hb').2, fun p hp => by cases hp⟩
    rcases hcase with ⟨hstop, hq⟩ | ⟨hgo, hz, hturn⟩
    · refine wpAny_mono (T.done (cxC X scope _ fp _ _ N') rfl rfl rfl rfl i [] s' _ H2 NoX J2 Fp t2 hstop) (fun r s1 ⟨hr, J5⟩ => ?_) fun _ _ f => f
      subst hr
      exact hRR _ _ _ _ _ _ I3 hf3 J5 hq
    · refine wpAny_mono (T.item (cxC X scope _ fp _ _ N') rfl rfl rfl rfl i [] s' _ H2 NoX J2 Fp t2 hgo) (fun r s1 ⟨u, hr, hx⟩ => ?_) fun _ _ f => f
      subst hr
      refine wpAny_mono hx (fun _ s2 ⟨v, H3, J3, rv, hy, t3, f3⟩ => ?_) fun _ _ f => f
      have Fp3 : ∀ b ∈ fp, FpOk (cxC X scope (s.heap.push { cls := .type "list", dict := none, data := .seq ([] : List Value).toArray }).objs.size fp { s with heap := s.heap.push { cls := .type "list", dict := none, data := .seq ([] : List Value).toArray } } (upd H s.heap.objs.size (.lst [])) N') [] H3 b := fun b hb' =>
        ⟨f3 b hb', (J3.ok.exf b hb').1, J3.ok.exfs b hb', .inl hb', (J3.ok.exf b hb').2, fun p hp => by cases hp⟩
      have P3 := J3.pinned Fp3 (T.obj (i + 1) _ t3)
      have keepT : ∀ {σ' : St} {Hx : Hp} {sx : Shared}, Inv (cxC X scope (s.heap.push { cls := .type "list", dict := none, data := .seq ([] : List Value).toArray }).objs.size fp { s with heap := s.heap.push { cls := .type "list", dict := none, data := .seq ([] : List Value).toArray } } (upd H s.heap.objs.size (.lst [])) N') ([] ++ pinsAt fp s2.heap) σ' Hx sx → tn (i + 1) sx.heap ∧ ∀ b ∈ fp, Hx b = none := fun Jx =>
        ⟨T.keep (i + 1) _ _ t3 fun b hb' ob e => (Jx.pin (b, ob) (List.mem_append_right _ (List.mem_append_right _ (mem_pinsAt hb' e)))).1, fun b hb' => by
          obtain ⟨ob, e, _⟩ := T.obj (i + 1) _ t3 b hb'
          exact (Jx.pin (b, ob) (List.mem_append_right _ (List.mem_append_right _ (mem_pinsAt hb' e)))).2.1⟩
      refine wpAny_assign_Name (store_ok P3 (i := 0) (x := x) (v := v) ?nd ?hi ?hx rv (fun s5 J5 => ?_) ?hfn)
      case nd => exact S.nd
      case hi => exact S.zero
      case hx => exact .inl (lookup_relabel_local S.own)
      case hfn => exact .inr (lookup_relabel_local S.own)
      have J5' : Inv _ _ (some v :: slots σ js) H3 s5 := J5
      refine wpAny_mono (ht _ _ _ _ _ _ _ _ _ J5' (hturn v H3 hy)) (fun ok s6 ⟨H6, J6, q6⟩ => ?_) fun _ _ f => f
      dsimp only at q6
      by_cases hok : ok = true
      · rw [if_pos hok] at q6 ⊢
        refine wpAny_mono (he _ _ _ _ _ _ _ _ _ J6 q6) (fun y s7 ⟨w', H7, J7, r7, hD7, m', hm', w7⟩ => ?_) fun _ _ f => f
        refine wpAny_mono (mt_append (X := cxC X scope _ fp _ _ N') _ _ _ _ (.ref s.heap.objs.size) [w'] (.ref s.heap.objs.size) [y] (fun _ H8 => H8 = upd H7 s.heap.objs.size (.lst (ys ++ [w']))) J7 rfl (.cons r7 .nil) ⟨_, _, _, rfl, rfl, hD7, hz, rfl⟩) (fun _ s8 ⟨_, H8, J8, _, e8⟩ => ?_) fun _ _ f => f
        subst e8
        obtain ⟨k1, k2⟩ := keepT J8
        exact ⟨m', hm', i + 1, ys ++ [w'], _, some v, J8.unpinned, k1, k2, w7⟩
      · rw [if_neg hok] at q6 ⊢
        obtain ⟨_, m', hm', w7⟩ := q6
        obtain ⟨k1, k2⟩ := keepT J6
        exact ⟨m', hm', i + 1, ys, _, some v, J6.unpinned, k1, k2, w7⟩
  refine codeAny_compStart_list loop (T.self X.A 0 _ _ _ t4 loop)
/-- [elt for x in iter if ..] as a value -/
theorem pe_comp {wi : TI} (S : CScope X scope x N' js) (hi : PI X (.Name x px) iter wi) (ht : ∀ C fp s₀ H₀, PTs (cxC X scope C fp s₀ H₀ N') ifs tc) (he : ∀ C fp s₀ H₀, PE (cxC X scope C fp s₀ H₀ N') elt te)
    (hs : ∀ x, foldedSetIterable iter X.env x = pure x := by intro _; rfl) : PE X (.ListComp elt [⟨.Name x px, iter, ifs, 0⟩] scope pos) (tComp wi js tc te) := by
  intro pins s σ H Q I h
  rw [eval_ListComp]
  refine wpAny_comprehension_free (use := none) rfl hs (closureFor_eq (S.cells I.ok)) S.kind S.names (wpAny_mono (hi pins s σ H _ I h) (fun v s1 h1 => ?_) fun _ _ e => e)
  refine wpAny_mono h1 (fun itv s2 ⟨it, fp, tn, J, H2, e, I2, T, t0, hf, R⟩ => ?_) fun _ _ e => e
  subst e
  refine comp_block S I2 T t0 hf ht he R ?_
  intro D H3 s3 σ' H' s' I3 hf3 J3 q
  obtain ⟨m, hm, _⟩ := J3.loc
  exact ⟨m, hm, fun h' hs' => ⟨.ref D, H', cxC_back S I3 hf3 J3 hs', rfl, q⟩⟩
/-- name = [elt for x in iter if ..], where the name is stored ahead of the variables' going -/
theorem ps_setComp {wi : TI} {y : Str} {py spos : Pos} {i : Nat} (S : CScope X scope x N' js) (hN : X.N.Nodup) (hiN : X.N[i]? = some y) (hy : X.env.kindOf y = some .local) (hi : PI X (.Name x px) iter wi) (ht : ∀ C fp s₀ H₀, PTs (cxC X scope C fp s₀ H₀ N') ifs tc) (he : ∀ C fp s₀ H₀, PE (cxC X scope C fp s₀ H₀ N') elt te)
    (hsw : swapsWith (.ListComp elt [⟨.Name x px, iter, ifs, 0⟩] scope pos) (some (.Name y py)) spos.line X.env = pure true) (hs : ∀ x, foldedSetIterable iter X.env x = pure x := by intro _; rfl) :
    PS X (.Assign [.Name y py] (.ListComp elt [⟨.Name x px, iter, ifs, 0⟩] scope pos) spos) (tAsg (tComp wi js tc te) (gName i)) := by
  intro pins s σ H D0 I h
  rw [exec_Assign_Name_used _ _ _ _ hsw]
  refine wpAny_bind (wpAny_standAt (wpAny_bind ?_))
  show wpAny _ X.A (do let _ ← comprehension (.ListComp elt [⟨.Name x px, iter, ifs, 0⟩] scope pos) scope X.env _ (newList []) false (eval iter X.env) (some (assign (.Name y py) X.env))) _ _ s
  refine wpAny_bind (wpAny_mono (wpAny_comprehension_free (use := some (assign (.Name y py) X.env)) (Q := fun _ s' => SP X pins D0 .next s') rfl hs (closureFor_eq (S.cells I.ok)) S.kind S.names (wpAny_mono (hi pins s σ H _ I h) (fun v s1 h1 => ?_) fun _ _ e => e)) (fun _ s' hq => wpAny_pure (wpAny_pure hq)) fun _ _ e => e)
  refine wpAny_mono h1 (fun itv s2 ⟨it, fp, tn, J, H2, e, I2, T, t0, hf, R⟩ => ?_) fun _ _ e => e
  subst e
  refine comp_block (Q := fun v H' => gName i v σ H' D0.nx) S I2 T t0 hf ht he R ?_
  intro D H3 s3 σ' H' s' I3 hf3 J3 q
  obtain ⟨m, hm, _⟩ := J3.loc
  have IX : Inv X pins σ H' s' := cxC_back S I3 hf3 J3 (Heap.SameBut.refl ..)
  have hCL : s3.heap.objs.size ≠ X.env.locals := fun e => by have := I3.lt; rw [e] at this; exact Nat.lt_irrefl _ this
  show wpAny _ X.A (assign (.Name y py) X.env (.ref D)) _ _ _
  refine wpAny_assign_Name (store_ok2 IX hN hiN (.inl hy) (v := .ref D) rfl (fun s5 I5 hsb => ?_) (.inr hy))
  obtain ⟨a, hsb, ha⟩ := hsb
  have hCa : s3.heap.objs.size ≠ a := by
    rcases ha with rfl | ha
    · exact hCL
    · intro e
      obtain ⟨v, o, eo, _⟩ := I3.cell y a ha
      have := Heap.lt_size eo
      rw [← e] at this
      exact Nat.lt_irrefl _ this
  refine ⟨m, hm.sameBut hsb hCa, fun h' hs' => ⟨_, H', ?_, q⟩⟩
  exact I5.turned (it := s3.heap.objs.size) (t' := s5.toks) (fun b o n e => hs'.extBut b o n e) J3.free hCL (.inr I3.sz)
    (fun z c hz e => by
      obtain ⟨v, o, eo, _⟩ := I3.cell z c hz
      have := Heap.lt_size eo
      rw [e] at this
      exact Nat.lt_irrefl _ this)
    (fun p hp e => by
      have := Heap.lt_size (I3.pin p hp).1
      rw [e] at this
      exact Nat.lt_irrefl _ this)
end
end L2
set_option Elab.async false
set_option linter.all false
set_option maxRecDepth 100000
namespace L2
open PySem PySem.Spec PyProof.Rows
/-! ### comprehensions, shut -/
structure PTsw (X : Cx) (ifs : List Expr) (t : TT) : Prop where p : PTs X ifs t
def tMonoE (t : TE) : TE := fun σ H Q => ∃ Q' : VK, t σ H Q' ∧ ∀ v H1, Q' v H1 → Q v H1
theorem PE.mono {X : Cx} {e : Expr} {t : TE} (h : PE X e t) : PE X e (tMonoE t) := fun pins s σ H Q I ⟨Q', h1, h2⟩ =>
  thn (h pins s σ H Q' I h1) fun b s' ⟨v, H', I', r, q⟩ => ⟨v, H', I', r, h2 _ _ q⟩
theorem PTs.mono {X : Cx} {es : List Expr} {t : TT} (h : PTs X es t) : PTs X es (tMono t) := fun pins s σ H Q I ⟨Q', h1, h2⟩ =>
  thn (h pins s σ H Q' I h1) fun b s' ⟨H', I', q⟩ => ⟨H', I', h2 _ _ q⟩
/-- a comprehension's turns, of the source J -/
@[irreducible] def CompB (J : It) (σ : St) (js : List Nat) (tc : TT) (te : TE) (H1 : Hp) (Q : VK) : Prop := ∀ D, H1 D = none → ∃ W : Nat → Nat → List V → Hp → Prop, (∃ m, W 0 m [] (upd H1 D (.lst []))) ∧
  ∀ i m ys H2, W i m ys H2 → H2 D = some (.lst ys) ∧ ((J.stop i H2 ∧ Q (.ref D) H2) ∨ (J.go i H2 ∧ ys.length < sizeLine ∧ ∀ x H3, J.yld i H2 x H3 →
    tMono tc (some x :: slots σ js) H3 fun b H4 => if b = true then tMonoE te (some x :: slots σ js) H4 fun y H5 => H5 D = some (.lst ys) ∧ ∃ m', m' < m ∧ W (i + 1) m' (ys ++ [y]) (upd H5 D (.lst (ys ++ [y])))
      else H4 D = some (.lst ys) ∧ ∃ m', m' < m ∧ W (i + 1) m' ys H4))
def tCompB (wi : TI) (js : List Nat) (tc : TT) (te : TE) : TE := fun σ H Q => wi σ H fun J H1 => CompB J σ js tc te H1 Q
section
variable {X : Cx} {scope : Scope} {x y : Str} {N' : List Str} {js : List Nat} {elt iter c : Expr} {px py pos spos : Pos} {ifs : List Expr} {tc : TT} {te : TE} {wi : TI} {i : Nat}
theorem wts_nil : PTsw X [] tYes := ⟨pts_nil⟩
theorem wts_one {t : TT} (h : PTw X c t) : PTsw X [c] t := ⟨pts_one h.p⟩
theorem we_comp (S : CScope X scope x N' js) (hi : PIw X (.Name x px) iter wi) (ht : ∀ C fp s₀ H₀, PTsw (cxC X scope C fp s₀ H₀ N') ifs tc) (he : ∀ C fp s₀ H₀, PEw (cxC X scope C fp s₀ H₀ N') elt te)
    (hs : ∀ x, foldedSetIterable iter X.env x = pure x := by intro _; rfl) : PEw X (.ListComp elt [⟨.Name x px, iter, ifs, 0⟩] scope pos) (tCompB wi js tc te) :=
  ⟨by unfold tCompB CompB; exact pe_comp S hi.p (fun C fp s₀ H₀ => (ht C fp s₀ H₀).p.mono) (fun C fp s₀ H₀ => (he C fp s₀ H₀).p.mono) hs⟩
theorem ws_setComp (S : CScope X scope x N' js) (hN : X.N.Nodup) (hiN : X.N[i]? = some y) (hy : X.env.kindOf y = some .local) (hi : PIw X (.Name x px) iter wi) (ht : ∀ C fp s₀ H₀, PTsw (cxC X scope C fp s₀ H₀ N') ifs tc) (he : ∀ C fp s₀ H₀, PEw (cxC X scope C fp s₀ H₀ N') elt te)
    (hsw : swapsWith (.ListComp elt [⟨.Name x px, iter, ifs, 0⟩] scope pos) (some (.Name y py)) spos.line X.env = pure true := by rfl) (hs : ∀ x, foldedSetIterable iter X.env x = pure x := by intro _; rfl) :
    PSw X (.Assign [.Name y py] (.ListComp elt [⟨.Name x px, iter, ifs, 0⟩] scope pos) spos) (tAsg (tCompB wi js tc te) (gName i)) :=
  ⟨by unfold tCompB CompB; exact ps_setComp S hN hiN hy hi.p (fun C fp s₀ H₀ => (ht C fp s₀ H₀).p.mono) (fun C fp s₀ H₀ => (he C fp s₀ H₀).p.mono) hsw hs⟩
end
/-- what a comprehension's scope must be, decided -/
def cscOk (psc scope : Scope) (N : List Str) (x : Str) (N' : List Str) (js : List Nat) : Bool :=
  (scope.names.all fun y => !(y.2 == .free) || psc.names.lookup y.1 == some .cell) && (scope.names.all fun y => !(y.2 == .cell)) && scope.kind == .function &&
  (scope.names.all fun y => !(y.2 == .local) || scope.names.lookup y.1 == some .local) && scope.names.lookup x == some .local &&
  (scope.names.all fun y => !(y.2 == .free) || !(scope.names.lookup y.1 == some .local)) && N'.length == js.length + 1 && N'[0]? == some x && decide N'.Nodup &&
  ((List.range js.length).all fun i => match js[i]?, N'[i + 1]? with
    | some j, some y => N[j]? == some y && scope.names.contains (y, NameKind.free)
    | _, _ => false)
theorem CScope.of {X : Cx} {psc scope : Scope} {N : List Str} {x : Str} {N' : List Str} {js : List Nat} (h : cscOk psc scope N x N' js = true) (hX : X.env.scope = psc) (hN : X.N = N) (hc : X.calm = true) : CScope X scope x N' js := by
  unfold cscOk at h
  simp only [Bool.and_eq_true] at h
  obtain ⟨⟨⟨⟨⟨⟨⟨⟨⟨h1, h2⟩, h3⟩, h4⟩, h5⟩, h6⟩, h7⟩, h8⟩, h9⟩, h10⟩ := h
  rw [List.all_eq_true] at h1 h2 h4 h6 h10
  refine ⟨hc, fun y hy e => ?_, fun y hy e => ?_, by simpa using h3, fun y hy e => ?_, by simpa using h5, fun y hy e => ?_, by simpa using h7, by simpa using h8, of_decide_eq_true h9, fun i j hj => ?_⟩
  · have := h1 y hy
    rw [e] at this
    show X.env.scope.names.lookup y.1 = _
    rw [hX]
    simpa using this
  · have := h2 y hy
    rw [e] at this
    simp at this
  · have := h4 y hy
    rw [e] at this
    simpa using this
  · have := h6 _ hy
    rw [e] at this
    simp at this
  · have hi : i < js.length := (List.getElem?_eq_some_iff.mp hj).1
    have := h10 i (List.mem_range.mpr hi)
    rw [hj] at this
    cases q : N'[i + 1]? with
    | none => rw [q] at this; simp at this
    | some y =>
      rw [q] at this
      simp only [Bool.and_eq_true] at this
      exact ⟨y, rfl, by rw [hN]; simpa using this.1, List.contains_iff_mem.mp this.2⟩
/-! ### their readings -/
section
variable {js : List Nat} {te : TE} {tc : TT} {σ : St} {H : Hp} {Q : VK}
/-- any source of n items, no test: src i x is what the i-th item is -/
theorem comp_any {J : It} {n : Nat} (src : Nat → V → Prop) (hz : n ≤ 100000) (Pv : Addr → Nat → List V → Hp → Prop)
    (h0 : ∀ D H1, H D = none → H1 D = some (.lst []) → Same H H1 → Pv D 0 [] H1)
    (hg : ∀ D i ys H', i < n → H' D = some (.lst ys) → Pv D i ys H' → J.go i H' ∧ ∀ x H3, J.yld i H' x H3 → H3 = H' ∧ src i x)
    (hst : ∀ D ys H', H' D = some (.lst ys) → Pv D n ys H' → J.stop n H')
    (hs : ∀ D i x ys H', src i x → i < n → ys.length = i → H' D = some (.lst ys) → Pv D i ys H' → te (some x :: slots σ js) H' fun y H5 => H5 D = some (.lst ys) ∧ ∀ H6, H6 D = some (.lst (ys ++ [y])) → SameBut D H5 H6 → Pv D (i + 1) (ys ++ [y]) H6)
    (hd : ∀ D ys H', ys.length = n → H D = none → H' D = some (.lst ys) → Pv D n ys H' → Q (.ref D) H') :
    CompB J σ js tYes te H Q := by
  unfold CompB
  intro D hD
  refine ⟨fun i m ys H' => m = n - i ∧ i ≤ n ∧ ys.length = i ∧ H' D = some (.lst ys) ∧ Pv D i ys H', ⟨n, by simp, Nat.zero_le _, rfl, upd_same, h0 D _ hD upd_same (Same.upd hD)⟩, ?_⟩
  rintro i m ys H2 ⟨rfl, hi, hy, hD2, p⟩
  refine ⟨hD2, ?_⟩
  by_cases hlt : i < n
  · obtain ⟨g1, g2⟩ := hg D i ys H2 hlt hD2 p
    refine .inr ⟨g1, Nat.lt_of_le_of_lt (m := 100000) (by (first | lia | omega)) (by decide), fun x H3 hy3 => ?_⟩
    obtain ⟨rfl, hx⟩ := g2 x H3 hy3
    refine ⟨fun b H4 => b = true ∧ H4 = H3, ⟨rfl, rfl⟩, ?_⟩
    rintro b H4 ⟨rfl, rfl⟩
    rw [if_pos rfl]
    refine ⟨_, hs D i x ys H4 hx hlt hy hD2 p, ?_⟩
    rintro v H5 ⟨hD5, k⟩
    exact ⟨hD5, n - (i + 1), by (first | lia | omega), rfl, hlt, by rw [List.length_append, hy]; rfl, upd_same, k _ upd_same SameBut.self⟩
  · have e : i = n := by (first | lia | omega)
    subst e
    exact .inl ⟨hst D ys H2 hD2 p, hd D ys H2 hy hD hD2 p⟩
end
/-! ### sum of a list of ints; == and != of data -/
@[irreducible] def rSum (K : PySem.W.Frag) : List V → Hp → VK → Prop := fun xs H Q => ∃ (p : Addr) (ns : List Int), xs = [.ref p] ∧ SqL K H p (ns.map V.int) ∧ Q (.int ns.sum) H
@[irreducible] def rEqD (b : Bool) : R2 := fun x y H Q => ∃ d d', Rep H d x ∧ Rep H d' y ∧ SeqAt.shaped d = true ∧ SeqAt.shaped d' = true ∧ Q (.bl (b == PyData.eqv d d')) H
section
variable {X : Cx}
theorem cl_sum (hc : X.calm = true) : CallR X (.builtin "sum") (rSum X.K) := by
  unfold rSum
  intro pins s σ H xs us Q I r h
  obtain ⟨p, ns, rfl, hq, q⟩ := h
  obtain ⟨u, rfl, rx⟩ := vals1 r
  cases rx
  obtain ⟨its, r', pl, hz⟩ := I.list hq
  have hi := intsAre_of r'
  obtain ⟨xs', e⟩ := hi.allInts.items
  rw [e] at pl
  refine sum_intListG (I.ok.hd hc) pl.isList fun h' tk t' hk => ⟨.int ns.sum, H, I.kept hk, ⟨t', ?_⟩, q⟩
  rw [preSum_eq, List.take_of_length_le (by simp)]
  rw [← hi.numsOf]
  have e2 : its = (intItems xs').toList := by rw [← e]
  rw [e2, nums_intItems]
theorem rsI {K : PySem.W.Frag} {H : Hp} {p : Addr} {ns : List Int} {Q : VK} (h : SqL K H p (ns.map V.int)) (q : Q (.int ns.sum) H) : rSum K [.ref p] H Q := by unfold rSum; exact ⟨p, ns, rfl, h, q⟩
theorem op_eqD (hu : X.A.units + 64 < cLine) : OpR X (compareOp .Eq) (rEqD true) := by
  unfold rEqD
  intro pins s σ H x y v u Q I rx ry h
  obtain ⟨d, d', h1, h2, s1, s2, q⟩ := h
  obtain ⟨as, ra⟩ := h1.reads I rx
  obtain ⟨bs, rb⟩ := h2.reads I ry
  exact SeqAt.compareEq_shaped ra rb s1 s2 hu ⟨.bl _, H, I, by show _ = _; simp, q⟩
theorem op_neD (hu : X.A.units + 64 < cLine) : OpR X (compareOp .NotEq) (rEqD false) := by
  unfold rEqD
  intro pins s σ H x y v u Q I rx ry h
  obtain ⟨d, d', h1, h2, s1, s2, q⟩ := h
  obtain ⟨as, ra⟩ := h1.reads I rx
  obtain ⟨bs, rb⟩ := h2.reads I ry
  exact SeqAt.compareNe_shaped ra rb s1 s2 hu ⟨.bl _, H, I, by show _ = _; simp, q⟩
theorem reD {b : Bool} {x y : V} {d d' : PyData} {H : Hp} {Q : VK} (h1 : Rep H d x) (h2 : Rep H d' y) (s1 : SeqAt.shaped d = true) (s2 : SeqAt.shaped d' = true) (q : Q (.bl (b == PyData.eqv d d')) H) : rEqD b x y H Q := by
  unfold rEqD; exact ⟨d, d', h1, h2, s1, s2, q⟩
end
/-! ### data that holds no list: nothing of it lies at a list's address -/
mutual
def flatD : PyData → Bool
  | .list _ => false
  | .dict _ => false
  | .tuple ds => flatDs ds
  | _ => true
def flatDs : List PyData → Bool
  | [] => true
  | d :: ds => flatD d && flatDs ds
end
/-! ### tuples stay -/
def SameT (H H' : Hp) : Prop := ∀ b xs, H b = some (.tup xs) → H' b = some (.tup xs)
theorem SameT.trans {H H1 H2 : Hp} (a : SameT H H1) (b : SameT H1 H2) : SameT H H2 := fun c o h => b c o (a c o h)
theorem Same.t {H H' : Hp} (s : Same H H') : SameT H H' := fun b xs h => s _ _ h
theorem SameBut.t {H H' : Hp} {p : Addr} (s : SameBut p H H') {xs : List V} (hp : H p = some (.lst xs)) : SameT H H' := fun b ys h => s.at (ne_of h hp (by intro z; cases z)) h
mutual
theorem Rep.flat {H H' : Hp} (s : SameT H H') : ∀ {d : PyData} {v : V}, flatD d = true → Rep H d v → Rep H' d v
  | .none, _, _, h => h
  | .bool _, _, _, h => h
  | .int _, _, _, h => h
  | .str _, _, _, h => h
  | .list _, _, f, _ => by simp [flatD] at f
  | .dict _, _, f, _ => by simp [flatD] at f
  | .tuple ds, _, f, h => by
    unfold Rep at h ⊢
    obtain ⟨a, ys, rfl, h1, h2⟩ := h
    exact ⟨a, ys, rfl, s _ _ h1, RepL.flat s (by simpa [flatD] using f) h2⟩
theorem RepL.flat {H H' : Hp} (s : SameT H H') : ∀ {ds : List PyData} {vs : List V}, flatDs ds = true → RepL H ds vs → RepL H' ds vs
  | [], _, _, h => h
  | d :: ds, _, f, h => by
    unfold RepL at h ⊢
    obtain ⟨x, ys, rfl, h1, h2⟩ := h
    simp only [flatDs, Bool.and_eq_true] at f
    exact ⟨x, ys, rfl, Rep.flat s f.1 h1, RepL.flat s f.2 h2⟩
end
theorem RepL.get {H : Hp} : ∀ {ds : List PyData} {vs : List V} {i : Nat} {v : V}, RepL H ds vs → vs[i]? = some v → ∃ d, ds[i]? = some d ∧ Rep H d v
  | [], _, i, v, h, e => by cases (show _ = [] from h); simp at e
  | d :: ds, _, i, v, h, e => by
    unfold RepL at h
    obtain ⟨x, ys, rfl, h1, h2⟩ := h
    cases i with
    | zero => simp at e; subst e; exact ⟨d, rfl, h1⟩
    | succ i =>
      rw [List.getElem?_cons_succ] at e ⊢
      exact RepL.get h2 e
theorem RepL.get' {H : Hp} : ∀ {ds : List PyData} {vs : List V} {i : Nat} {d : PyData}, RepL H ds vs → ds[i]? = some d → ∃ v, vs[i]? = some v ∧ Rep H d v
  | [], _, i, d, h, e => by simp at e
  | d' :: ds, _, i, d, h, e => by
    unfold RepL at h
    obtain ⟨x, ys, rfl, h1, h2⟩ := h
    cases i with
    | zero => simp at e; subst e; exact ⟨x, rfl, h1⟩
    | succ i =>
      rw [List.getElem?_cons_succ] at e ⊢
      exact RepL.get' h2 e
theorem RepL.snoc {H : Hp} {ds : List PyData} {vs : List V} {d : PyData} {v : V} (h : RepL H ds vs) (r : Rep H d v) : RepL H (ds ++ [d]) (vs ++ [v]) := RepL.append (RepL.cons r RepL.nil) h
theorem bitsOf {i : Int} {n : Nat} (h : i.natAbs < 2 ^ n) : bits i ≤ n := PySem.intBits_le_iff.mpr h
/-! ### how long a repr is at most -/
mutual
def shW : PyData → Nat
  | .none => 4
  | .bool _ => 5
  | .int _ => 1921
  | .str x => (reprText x).length
  | .list xs => shWs xs + 4
  | .tuple xs => shWs xs + 4
  | .dict _ => 0
def shWs : List PyData → Nat
  | [] => 0
  | x :: xs => shW x + 2 + shWs xs
end
theorem textFrom_le : ∀ (ts : List Str) (k : Nat) (acc : Str), (textFrom k acc ts).length ≤ acc.length + piled ts
  | [], k, acc => by show acc.length ≤ _; (first | lia | omega)
  | t :: r, k, acc => by
    have h := textFrom_le r (k + 1) (acc ++ (if k > 0 then ", " else "" : String) ++ t)
    have e : (acc ++ (if k > 0 then ", " else "" : String) ++ t).length = acc.length + (if k > 0 then 2 else 0) + t.length := by
      rw [strLen_append, strLen_append]
      split <;> rfl
    rw [e] at h
    rw [piled_cons]
    show (textFrom (k + 1) _ r).length ≤ _
    refine Nat.le_trans h ?_
    split <;> (first | lia | omega)
theorem tupleText_le (ts : List Str) : (tupleText ts).length ≤ piled ts + 4 := by
  unfold tupleText
  rw [strLen_append, strLen_append]
  have e1 : (("(" : Str)).length = 1 := rfl
  have e2 : ((if ts.length == 1 then ",)" else ")" : String) : Str).length ≤ 2 := by split <;> decide
  rw [e1]
  by_cases h : ts = []
  · subst h; have : (Str.join ", " []).length = 0 := rfl
    (first | lia | omega)
  · have := join_length_add ts h
    (first | lia | omega)
theorem listText_le (ts : List Str) : (listText ts).length ≤ piled ts + 4 := by
  unfold listText
  rw [strLen_append]
  have := textFrom_le ts 0 "["
  have e1 : (("[" : String) : Str).length = 1 := rfl
  have e2 : (("]" : String) : Str).length = 1 := rfl
  rw [e1] at this
  rw [e2]
  (first | lia | omega)
mutual
theorem shown_le : ∀ d : PyData, d.showable = true → d.hasDict = false → d.shown.length ≤ shW d
  | .none, _, _ => by simp only [PyData.shown, shW]; decide
  | .bool b, _, _ => by cases b <;> (simp only [PyData.shown, shW]; decide)
  | .int i, h, _ => by
    simp only [PyData.shown, shW]
    exact int_text_len_1921 (by simpa [PyData.showable] using h)
  | .str x, _, _ => by simp only [PyData.shown, shW]; exact Nat.le_refl _
  | .list xs, h, h2 => by
    simp only [PyData.shown, shW]
    have := shownAll_le xs (by simpa [PyData.showable] using h) (by simpa [PyData.hasDict] using h2)
    have := listText_le (PyData.shownAll xs)
    (first | lia | omega)
  | .tuple xs, h, h2 => by
    simp only [PyData.shown, shW]
    have := shownAll_le xs (by simpa [PyData.showable] using h) (by simpa [PyData.hasDict] using h2)
    have := tupleText_le (PyData.shownAll xs)
    (first | lia | omega)
  | .dict _, _, h => by simp [PyData.hasDict] at h
theorem shownAll_le : ∀ ds : List PyData, PyData.showableAll ds = true → PyData.hasDictAll ds = false → piled (PyData.shownAll ds) ≤ shWs ds
  | [], _, _ => by simp only [PyData.shownAll, shWs]; exact Nat.le_refl _
  | d :: ds, h, h2 => by
    simp only [PyData.showableAll, Bool.and_eq_true] at h
    simp only [PyData.hasDictAll, Bool.or_eq_false_iff] at h2
    have := shown_le d h.1 h2.1
    have := shownAll_le ds h.2 h2.2
    simp only [PyData.shownAll, shWs, piled_cons]
    (first | lia | omega)
end
theorem showInt {i : Int} {n : Nat} (h : i.natAbs < 2 ^ n) (hn : n ≤ 1920 := by decide) : PyData.showable (.int i) = true := by
  simp only [PyData.showable]
  refine decide_eq_true (log_of_bits (Nat.le_trans (bitsOf h) hn) (by decide))
/-! ### the same with the written part named: inside a comprehension -/
section
variable {X : Cx} (K : PySem.W.Frag)
theorem ix_seqK (h : X.K = K := by rfl) : IxR X (rIx K) := by subst h; exact ix_seq
theorem cl_sumK (hc : X.calm = true) (h : X.K = K := by rfl) : CallR X (.builtin "sum") (rSum K) := by subst h; exact cl_sum hc
theorem op_notInK (h : X.K = K := by rfl) : OpR X (compareOp .NotIn) (rIn K true) := by subst h; exact op_notIn_seq
end
end L2
set_option Elab.async false
set_option linter.all false
set_option maxRecDepth 100000
namespace L2
open PySem
section
variable {prog : Program} {w : World} {A : Around} {E : Value → Shared → Prop} {s : Shared}
end
end L2
set_option Elab.async false
set_option linter.all false
set_option maxRecDepth 100000
namespace L2
open PySem PySem.Spec PyProof.Rows
section
variable {X : Cx} {pins : List (Addr × Obj)} {σ : St} {H : Hp} {s : Shared} {h' : Heap}
end
section
variable {prog : Program} {w : World} {A : Around} {E : Value → Shared → Prop} {s : Shared}
end
section
variable {X : Cx}
end
end L2
set_option Elab.async false
set_option linter.all false
set_option maxRecDepth 100000
namespace L2
open PySem
/-! ### tuples among the objects of the text -/
def intsAre : List Value → List Int → Bool
  | [], [] => true
  | .int i _ :: vs, n :: ns => decide (i = n) && intsAre vs ns
  | _, _ => false
def intsIn (K : PySem.W.Frag) (a : Addr) (ns : List Int) : Bool :=
  match K.lookup a with
  | some o => (match o.cls with | .type n => n == "tuple" | _ => false) && (match o.data with | .seq xs _ => decide (xs.size ≤ 64) && intsAre xs.toList ns | _ => false)
  | none => false
theorem intsAre.vals : ∀ {vs : List Value} {ns : List Int}, intsAre vs ns = true → Vals (ns.map V.int) vs
  | [], [], _ => .nil
  | v :: vs, n :: ns, h => by
    cases v with
    | int i t =>
      have h' : (decide (i = n) && intsAre vs ns) = true := h
      rw [Bool.and_eq_true] at h'
      have e := of_decide_eq_true h'.1
      subst e
      exact .cons ⟨t, rfl⟩ (intsAre.vals h'.2)
    | _ => cases h
  | [], _ :: _, h => by cases h
  | v :: _, [], h => by cases v <;> cases h
theorem sqT_ints {K : PySem.W.Frag} {H : Hp} {a : Addr} {ns : List Int} (h : intsIn K a ns = true) : SqT K H a (ns.map V.int) := by
  unfold intsIn at h
  split at h
  · rename_i o ho
    rw [Bool.and_eq_true] at h
    obtain ⟨h1, h2⟩ := h
    split at h1
    · rename_i n hn
      split at h2
      · rename_i xs m hx
        rw [Bool.and_eq_true] at h2
        have e : n = "tuple" := by simpa using h1
        subst e
        exact .inr ⟨o, xs, m, ho, hn, hx, small64 (of_decide_eq_true h2.1), intsAre.vals h2.2⟩
      · cases h2
    · cases h1
  · cases h
mutual
def RepK (K : PySem.W.Frag) (H : Hp) : PyData → V → Prop
  | .none, v => v = .non
  | .bool b, v => v = .bl b
  | .int i, v => v = .int i
  | .str x, v => v = .str x
  | .list ds, v => ∃ a xs, v = .ref a ∧ H a = some (.lst xs) ∧ RepKL K H ds xs
  | .tuple ds, v => ∃ a xs, v = .ref a ∧ SqT K H a xs ∧ RepKL K H ds xs
  | .dict kvs, v => kvs = [] ∧ ∃ a, v = .ref a ∧ H a = some (.dK [])
def RepKL (K : PySem.W.Frag) (H : Hp) : List PyData → List V → Prop
  | [], vs => vs = []
  | d :: ds, vs => ∃ x xs, vs = x :: xs ∧ RepK K H d x ∧ RepKL K H ds xs
end
mutual
theorem Rep.k {K : PySem.W.Frag} {H : Hp} : ∀ {d : PyData} {v : V}, Rep H d v → RepK K H d v
  | .none, _, h => h
  | .bool _, _, h => h
  | .int _, _, h => h
  | .str _, _, h => h
  | .list ds, _, h => by
    unfold Rep at h; unfold RepK
    obtain ⟨a, xs, rfl, h1, h2⟩ := h
    exact ⟨a, xs, rfl, h1, RepL.k h2⟩
  | .tuple ds, _, h => by
    unfold Rep at h; unfold RepK
    obtain ⟨a, xs, rfl, h1, h2⟩ := h
    exact ⟨a, xs, rfl, SqT.of h1, RepL.k h2⟩
  | .dict kvs, _, h => by unfold Rep at h; unfold RepK; exact h
theorem RepL.k {K : PySem.W.Frag} {H : Hp} : ∀ {ds : List PyData} {vs : List V}, RepL H ds vs → RepKL K H ds vs
  | [], _, h => h
  | d :: ds, _, h => by
    unfold RepL at h; unfold RepKL
    obtain ⟨x, xs, rfl, h1, h2⟩ := h
    exact ⟨x, xs, rfl, Rep.k h1, RepL.k h2⟩
end
theorem RepK.tup {K : PySem.W.Frag} {H : Hp} {a : Addr} {xs : List V} {ds : List PyData} (h : SqT K H a xs) (r : RepKL K H ds xs) : RepK K H (.tuple ds) (.ref a) := by
  unfold RepK; exact ⟨a, xs, rfl, h, r⟩
theorem RepKL.ints {K : PySem.W.Frag} {H : Hp} : ∀ ns : List Int, RepKL K H (ns.map PyData.int) (ns.map V.int)
  | [] => by unfold RepKL; rfl
  | n :: ns => by unfold RepKL; exact ⟨_, _, rfl, by unfold RepK; rfl, RepKL.ints ns⟩
section
variable {X : Cx} {pins : List (Addr × Obj)} {σ : St} {H : Hp} {s : Shared}
mutual
theorem RepK.reads (I : Inv X pins σ H s) : ∀ {d : PyData} {v : V} {u : Value}, RepK X.K H d v → RelV v u → ∃ as, Reads s.heap u d as
  | .none, _, u, h, r => by
    cases (show _ = V.non from h); cases (show u = Value.none from r); exact ⟨_, .none⟩
  | .bool b, _, u, h, r => by
    cases (show _ = V.bl b from h); cases (show u = Value.bool b from r); exact ⟨_, .bool b⟩
  | .int b, _, u, h, r => by
    cases (show _ = V.int b from h); obtain ⟨t, q⟩ := (show ∃ t, u = Value.int b t from r); cases q; exact ⟨_, .int b t⟩
  | .str b, _, u, h, r => by
    cases (show _ = V.str b from h); obtain ⟨t, q⟩ := (show ∃ t, u = Value.str b t from r); cases q; exact ⟨_, .str b t⟩
  | .list ds, v, u, h, r => by
    unfold RepK at h
    obtain ⟨a, xs, rfl, h1, h2⟩ := h
    cases (show u = Value.ref a from r)
    obtain ⟨_, its, n, r', e⟩ := (show ObjOk X.prog X.w H s.heap a (.lst xs) from I.hok a _ h1)
    obtain ⟨as, q⟩ := RepKL.reads I h2 r'
    exact ⟨_, .list e rfl rfl (by simpa using q)⟩
  | .tuple ds, v, u, h, r => by
    unfold RepK at h
    obtain ⟨a, xs, rfl, h1, h2⟩ := h
    cases (show u = Value.ref a from r)
    obtain ⟨its, r', ⟨o, e, hc, n, hd⟩, _⟩ := I.tuple h1
    obtain ⟨as, q⟩ := RepKL.reads I h2 r'
    exact ⟨_, .tuple e hc hd (by simpa using q)⟩
  | .dict kvs, v, u, h, r => Rep.reads I (d := .dict kvs) (by unfold Rep; unfold RepK at h; exact h) r
theorem RepKL.reads (I : Inv X pins σ H s) : ∀ {ds : List PyData} {vs : List V} {us : List Value}, RepKL X.K H ds vs → Vals vs us → ∃ as, ReadsAll s.heap us ds as
  | [], _, us, h, r => by
    cases (show _ = [] from h); cases r; exact ⟨_, .nil⟩
  | d :: ds, _, us, h, r => by
    unfold RepKL at h
    obtain ⟨x, xs, rfl, h1, h2⟩ := h
    cases r with
    | cons r1 r2 =>
      obtain ⟨as, q1⟩ := RepK.reads I h1 r1
      obtain ⟨bs, q2⟩ := RepKL.reads I h2 r2
      exact ⟨_, .cons q1 q2⟩
end
end
@[irreducible] def rEqK (K : PySem.W.Frag) (b : Bool) : R2 := fun x y H Q => ∃ d d', RepK K H d x ∧ RepK K H d' y ∧ SeqAt.shaped d = true ∧ SeqAt.shaped d' = true ∧ Q (.bl (b == PyData.eqv d d')) H
section
variable {X : Cx}
theorem op_eqK (K : PySem.W.Frag) (hu : X.A.units + 64 < cLine) (hK : X.K = K := by rfl) : OpR X (compareOp .Eq) (rEqK K true) := by
  subst hK
  unfold rEqK
  intro pins s σ H x y v u Q I rx ry h
  obtain ⟨d, d', h1, h2, s1, s2, q⟩ := h
  obtain ⟨as, ra⟩ := h1.reads I rx
  obtain ⟨bs, rb⟩ := h2.reads I ry
  exact SeqAt.compareEq_shaped ra rb s1 s2 hu ⟨.bl _, H, I, by show _ = _; simp, q⟩
theorem op_neK (K : PySem.W.Frag) (hu : X.A.units + 64 < cLine) (hK : X.K = K := by rfl) : OpR X (compareOp .NotEq) (rEqK K false) := by
  subst hK
  unfold rEqK
  intro pins s σ H x y v u Q I rx ry h
  obtain ⟨d, d', h1, h2, s1, s2, q⟩ := h
  obtain ⟨as, ra⟩ := h1.reads I rx
  obtain ⟨bs, rb⟩ := h2.reads I ry
  exact SeqAt.compareNe_shaped ra rb s1 s2 hu ⟨.bl _, H, I, by show _ = _; simp, q⟩
end
section
variable {K : PySem.W.Frag} {H : Hp} {p : Addr} {xs : List V} {i : Int} {v : V} {Q : VK}
theorem reK {b : Bool} {x y : V} {d d' : PyData} (h1 : RepK K H d x) (h2 : RepK K H d' y) (s1 : SeqAt.shaped d = true) (s2 : SeqAt.shaped d' = true) (q : Q (.bl (b == PyData.eqv d d')) H) : rEqK K b x y H Q := by
  unfold rEqK; exact ⟨d, d', h1, h2, s1, s2, q⟩
theorem ixK (h : SqT K H p xs) (e : atI xs i = some v) (q : Q v H) : rIx K (.ref p) (.int i) H Q := .inr (.inl ⟨p, xs, i, v, rfl, rfl, h, e, q⟩)
end
theorem cutV_lo (xs : List V) (k : Nat) : cutV xs (some (k : Int)) none = xs.drop k := by
  unfold cutV
  rw [HT.sIx_nat, HT.sIx_none]
  by_cases h : k ≤ xs.length
  · rw [Nat.min_eq_left h]
    exact List.take_of_length_le (by rw [List.length_drop]; exact Nat.le_refl _)
  · rw [Nat.min_eq_right (by (first | lia | omega)), List.drop_of_length_le (Nat.le_refl _), List.drop_of_length_le (by (first | lia | omega)), List.take_nil]
theorem cutV_hi (xs : List V) (k : Nat) : cutV xs none (some (k : Int)) = xs.take k := by
  unfold cutV
  rw [HT.sIx_nat, HT.sIx_none, List.drop_zero, Nat.sub_zero]
  by_cases h : k ≤ xs.length
  · rw [Nat.min_eq_left h]
  · rw [Nat.min_eq_right (by (first | lia | omega)), List.take_of_length_le (Nat.le_refl _), List.take_of_length_le (by (first | lia | omega))]
end L2
set_option Elab.async false
set_option linter.all false
set_option maxRecDepth 100000
namespace L2
open PySem
section
variable {σ : St} {js : List Nat} {te : TE} {H : Hp} {Q : VK}
theorem snoc_all {R : Nat → V → Prop} {ys : List V} {y : V} (h : ∀ (j : Nat) z, ys[j]? = some z → R j z) (r : R ys.length y) : ∀ (j : Nat) z, (ys ++ [y])[j]? = some z → R j z := fun j z hj => by
  by_cases hji : j < ys.length
  · rw [List.getElem?_append_left hji] at hj; exact h j z hj
  · rw [List.getElem?_append_right (by (first | lia | omega))] at hj
    have : j - ys.length = 0 := by
      by_cases q : j - ys.length = 0
      · exact q
      · rw [List.getElem?_eq_none (by simp; (first | lia | omega))] at hj; cases hj
    rw [this] at hj
    have hj' : y = z := by simpa using hj
    have : j = ys.length := by (first | lia | omega)
    subst this hj'
    exact r
/-- items that make new tuples alone -/
theorem comp_mapT {J : It} {n : Nat} (src : Nat → V → Prop) (R : Nat → V → Hp → Prop) (hR : ∀ i y H1 H2, SameT H1 H2 → R i y H1 → R i y H2) (hz : n ≤ 100000)
    (hg : ∀ i H', Same H H' → i < n → J.go i H' ∧ ∀ x H3, J.yld i H' x H3 → H3 = H' ∧ src i x) (hst : ∀ H', Same H H' → J.stop n H')
    (hs : ∀ i x H' (Q' : VK), src i x → i < n → Same H H' → (∀ y H5, Same H' H5 → R i y H5 → Q' y H5) → te (some x :: slots σ js) H' Q')
    (hd : ∀ D ys H', H D = none → H' D = some (.lst ys) → Same H H' → ys.length = n → (∀ (i : Nat) (y : V), ys[i]? = some y → R i y H') → Q (.ref D) H') : CompB J σ js tYes te H Q := by
  refine comp_any (J := J) (n := n) src hz (fun D i ys H' => H D = none ∧ Same H H' ∧ ∀ (i : Nat) (y : V), ys[i]? = some y → R i y H') (fun D H1 hD _ s => ⟨hD, s, fun i y h => by simp at h⟩)
    (fun D i ys H' hi _ p => hg i H' p.2.1 hi) (fun D ys H' _ p => hst H' p.2.1) (fun D i x ys H' hx hi hy hD p => ?_) (fun D ys H' hy hD hD' p => hd D ys H' hD hD' p.2.1 hy p.2.2)
  refine hs i x H' _ hx hi p.2.1 fun y H5 s5 r => ?_
  refine ⟨s5 _ _ hD, fun H6 hD6 s6 => ⟨p.1, Same.thru p.1 (p.2.1.trans s5) s6, ?_⟩⟩
  have t6 := s6.t (s5 _ _ hD)
  exact snoc_all (R := fun j z => R j z H6) (fun j z hj => hR j z _ _ (s5.t.trans t6) (p.2.2 j z hj)) (by rw [hy]; exact hR i y _ _ t6 r)
theorem comp_mapL {K : PySem.W.Frag} {a : Addr} {xs : List V} (R : Nat → V → Hp → Prop) (hR : ∀ i y H1 H2, SameT H1 H2 → R i y H1 → R i y H2) (hz : xs.length ≤ 100000) (hl : H a = some (.lst xs))
    (hs : ∀ i x H' (Q' : VK), xs[i]? = some x → Same H H' → (∀ y H5, Same H' H5 → R i y H5 → Q' y H5) → te (some x :: slots σ js) H' Q')
    (hd : ∀ D ys H', H D = none → H' D = some (.lst ys) → Same H H' → ys.length = xs.length → (∀ (i : Nat) (y : V), ys[i]? = some y → R i y H') → Q (.ref D) H') : CompB (Itl K a) σ js tYes te H Q :=
  comp_mapT (fun i x => xs[i]? = some x) R hR hz (fun i H' s hi => ⟨⟨xs, xs[i], SqL.of (s _ _ hl), by simp [hi]⟩, fun x H3 y => ⟨y.1, y.2 xs (SqL.of (s _ _ hl))⟩⟩) (fun H' s => ⟨xs, SqL.of (s _ _ hl), Nat.le_refl _⟩)
    (fun i x H' Q' hx _ s k => hs i x H' Q' hx s k) hd
theorem comp_mapU {K : PySem.W.Frag} {a : Addr} {xs : List V} (R : Nat → V → Hp → Prop) (hR : ∀ i y H1 H2, SameT H1 H2 → R i y H1 → R i y H2) (hz : xs.length ≤ 100000) (hl : H a = some (.tup xs))
    (hs : ∀ i x H' (Q' : VK), xs[i]? = some x → Same H H' → (∀ y H5, Same H' H5 → R i y H5 → Q' y H5) → te (some x :: slots σ js) H' Q')
    (hd : ∀ D ys H', H D = none → H' D = some (.lst ys) → Same H H' → ys.length = xs.length → (∀ (i : Nat) (y : V), ys[i]? = some y → R i y H') → Q (.ref D) H') : CompB (Itt K a) σ js tYes te H Q :=
  comp_mapT (fun i x => xs[i]? = some x) R hR hz (fun i H' s hi => ⟨⟨xs, xs[i], SqT.of (s _ _ hl), by simp [hi]⟩, fun x H3 y => ⟨y.1, y.2 xs (SqT.of (s _ _ hl))⟩⟩) (fun H' s => ⟨xs, SqT.of (s _ _ hl), Nat.le_refl _⟩)
    (fun i x H' Q' hx _ s k => hs i x H' Q' hx s k) hd
theorem comp_mapR {lo : Int} {n : Nat} (R : Nat → V → Hp → Prop) (hR : ∀ i y H1 H2, SameT H1 H2 → R i y H1 → R i y H2) (hz : n ≤ 100000)
    (hs : ∀ i H' (Q' : VK), i < n → Same H H' → (∀ y H5, Same H' H5 → R i y H5 → Q' y H5) → te (some (.int (lo + (i : Nat))) :: slots σ js) H' Q')
    (hd : ∀ D ys H', H D = none → H' D = some (.lst ys) → Same H H' → ys.length = n → (∀ (i : Nat) (y : V), ys[i]? = some y → R i y H') → Q (.ref D) H') : CompB (Itr lo n) σ js tYes te H Q :=
  comp_mapT (fun i x => x = .int (lo + (i : Nat))) R hR hz (fun i H' s hi => ⟨hi, fun x H3 y => y⟩) (fun H' s => Nat.le_refl _)
    (fun i x H' Q' hx hi s k => by subst hx; exact hs i H' Q' hi s k) hd
theorem SameBut.thru {p l : Addr} {H0 H1 H2 : Hp} (hl : H0 l = none) (s : SameBut p H0 H1) (b : SameBut l H1 H2) : SameBut p H0 H2 := fun c o e => by
  have n := Hide.ne e
  have e0 : H0 c = some o := by rw [Hide.at n] at e; exact e
  have nl : c ≠ l := fun z => by subst z; rw [hl] at e0; cases e0
  exact Hide.of n (b.at nl (s.at n e0))
end
/-! ### results by places as data -/
theorem RepL.ofIdx {H : Hp} : ∀ {ds : List PyData} {ys : List V}, ys.length = ds.length → (∀ (i : Nat) (y : V), ys[i]? = some y → ∃ d, ds[i]? = some d ∧ Rep H d y) → RepL H ds ys
  | [], [], _, _ => RepL.nil
  | d :: ds, y :: ys, hl, h => by
    obtain ⟨d', e, r⟩ := h 0 y rfl
    cases (show d = d' by simpa using e)
    exact RepL.cons r (RepL.ofIdx (by simpa using hl) fun i z hz => by simpa using h (i + 1) z (by simpa using hz))
  | [], _ :: _, hl, _ => by simp at hl
  | _ :: _, [], hl, _ => by simp at hl
/-- ints by places: one list of them -/
theorem ints_of {P : Nat → Int → Prop} : ∀ {ys : List V}, (∀ (i : Nat) (y : V), ys[i]? = some y → ∃ n, y = .int n ∧ P i n) → ∃ ns : List Int, ys = ns.map V.int ∧ ∀ (i : Nat) n, ns[i]? = some n → P i n
  | [], _ => ⟨[], rfl, fun i n h => by simp at h⟩
  | y :: ys, h => by
    obtain ⟨n, rfl, hn⟩ := h 0 y rfl
    obtain ⟨ns, rfl, hs⟩ := ints_of (P := fun i => P (i + 1)) (ys := ys) fun i z hz => h (i + 1) z (by simpa using hz)
    refine ⟨n :: ns, rfl, fun i m hm => ?_⟩
    cases i with
    | zero => cases (show n = m by simpa using hm); exact hn
    | succ i => exact hs i m (by simpa using hm)
end L2
set_option Elab.async false
set_option linter.all false
set_option maxRecDepth 100000
namespace L2
open PySem PySem.Spec PyProof.Rows
section
variable {X : Cx}
/-! ### t + u of tuples, either void -/
@[irreducible] def rCatU (K : PySem.W.Frag) : R2 := fun x y H Q => ∃ a b xs ys, x = .ref a ∧ y = .ref b ∧ H a = some (.tup xs) ∧ H b = some (.tup ys) ∧ xs.length + ys.length ≤ 1000 ∧ ∀ c H', Same H H' → H' c = some (.tup (xs ++ ys)) → Q (.ref c) H'
theorem catU {K : PySem.W.Frag} {H : Hp} {Q : VK} {a b : Addr} {xs ys : List V} (h1 : H a = some (.tup xs)) (h2 : H b = some (.tup ys)) (hz : xs.length + ys.length ≤ 1000) (k : ∀ c H', Same H H' → H' c = some (.tup (xs ++ ys)) → Q (.ref c) H') : rCatU K (.ref a) (.ref b) H Q := by
  unfold rCatU; exact ⟨a, b, xs, ys, rfl, rfl, h1, h2, hz, k⟩
theorem op_catU (K : PySem.W.Frag) (hK : X.K = K := by rfl) : OpR X (binaryOp .Add) (rCatU K) := by
  subst hK
  unfold rCatU
  intro pins s σ H x y v u Q I rx ry h
  obtain ⟨a, b, xs, ys, rfl, rfl, ha, hb, hz, q⟩ := h
  by_cases hx : xs = []
  · cases rx
    cases ry
    subst hx
    obtain ⟨its, r1, p1, _⟩ := I.tuple (SqT.of ha)
    obtain ⟨its2, r2, p2, _⟩ := I.tuple (SqT.of hb)
    cases r1
    obtain ⟨⟨cls, dd, data, sl⟩, ho, hc, n, hd⟩ := id p1
    obtain ⟨⟨cls2, dd2, data2, sl2⟩, ho2, hc2, n2, hd2⟩ := id p2
    simp only at hc hd hc2 hd2
    subst hc hd hc2 hd2
    exact concat_meets ⟨_, ho, rfl⟩ ⟨_, ho2, rfl⟩ noFill_tuple_add seq_tuple_add PySem.F.slot_tuple_add PySem.F.entry_tuple_add (PySem.F.args_tuple_add_2 _ _)
      (tuple_addW0 a b _ _ n n2 dd dd2 sl sl2 rfl) ⟨ho, ho2, ⟨.ref b, H, I, rfl, q b H (Same.refl _) hb⟩⟩
  · refine op_catT pins s σ H _ _ v u Q I rx ry ⟨a, b, xs, ys, rfl, rfl, SqT.of ha, SqT.of hb, hx, Nat.le_trans hz (by decide), fun e => ?_, fun _ p hp => q p _ (Same.upd hp) upd_same⟩
    subst e
    exact q a H (Same.refl _) (by rw [List.append_nil]; exact ha)
end
theorem int_rmul_tuple (a : Int) (t : Tok) (l : Addr) (items : Array Value) (n : Nat) (dd : Option Addr) (sl : Array (Option Value)) :
    Meets (Builtin.«int.__rmul__» ⟨[.int a t, .ref l], []⟩) (fun _ R s => s.heap.get? l = some { cls := .type "tuple", dict := dd, data := .seq items n, slots := sl } ∧ R (.ok (.ret Value.notImplemented)) s) :=
  .of_wp fun prog w A R s h => by
    obtain ⟨hp, g, d, tk, os⟩ := s
    obtain ⟨hl, h⟩ := h
    wp_walk
    exact ⟨_, rfl, h⟩
theorem tuple_mulM (l : Addr) (items : Array Value) (n : Nat) (dd : Option Addr) (sl : Array (Option Value)) (k : Int) (u : Tok) (h0 : 2 ≤ k) (h1 : k ≤ 64) (he : items.isEmpty = false) (hz : items.size ≤ 64) (hsz : ((List.replicate k.toNat items).foldl (· ++ ·) #[]).size ≤ sizeLine) :
    Meets (Builtin.«tuple.__mul__» ⟨[.ref l, .int k u], []⟩) (fun _ R s => s.heap.get? l = some { cls := .type "tuple", dict := dd, data := .seq items n, slots := sl } ∧ R (.ok (.ret (.ref s.heap.objs.size))) { s with heap := s.heap.push { cls := .type "tuple", data := .seq ((List.replicate k.toNat items).foldl (· ++ ·) #[]) } }) :=
  .of_wp fun prog w A R s h => by
    obtain ⟨hp, g, d, tk, os⟩ := s
    obtain ⟨hl, h⟩ := h
    have f1 := AutoSeq1.idx_int
    wp_walk using wpAny_loadPart' hl
    rw [if_neg (by simp; (first | lia | omega))]
    wp_walk using wpAny_loadPart' hl
    have he' : ¬ items = #[] := fun z => by simp [z] at he
    have hm : (items.size : Int) * k ≤ 4096 := by
      have h2 : (items.size : Int) * k ≤ 64 * 64 := Int.mul_le_mul (by (first | lia | omega)) h1 (by (first | lia | omega)) (by (first | lia | omega))
      (first | lia | omega)
    rw [if_neg (by simp; exact ⟨he', by (first | lia | omega)⟩)]
    rw [if_neg (by simp; exact ⟨by (first | lia | omega), he'⟩)]
    show wpAny _ _ (if (items.size : Int) * k > (2 ^ 63 - 1) / 8 then _ else _) _ _ _
    rw [if_neg (by (first | lia | omega))]
    show wpAny _ _ (if Builtin.Tuple.tupleTooMany (items.size * k) = true then _ else _) _ _ _
    rw [if_neg (by unfold Builtin.Tuple.tupleTooMany; simp; exact Int.le_trans hm (by decide))]
    wp_walk
    exact ⟨_, rfl, h⟩
theorem noFill_tuple_mul : fillsNumberSlot (.type "tuple") "mul" = pure false := PySem.fillsNumberSlot_seq (id := "tuple.__mul__") (r := some (.builtin "tuple.__rmul__")) F.slot_tuple_mul.lookup (by decide +kernel) F.slot_tuple_rmul.lookup (by decide +kernel)
theorem repeat_tuple : seqRepeat? (.type "tuple") = pure (some (.builtin "tuple.__mul__")) := by
  unfold seqRepeat?; rw [PySem.seqSlot_of (T := "tuple") (name := "__mul__") (id := "tuple.__mul__") F.slot_tuple_mul.lookup (by decide +kernel), PySem.seqSlot_of (T := "tuple") (name := "__rmul__") (id := "tuple.__rmul__") F.slot_tuple_rmul.lookup (by decide +kernel)]; rfl
/-- a tuple of one thing, so many times -/
@[irreducible] def rMulT : R2 := fun x y H Q => ∃ a z, ∃ k : Nat, x = .ref a ∧ y = .int (k : Int) ∧ H a = some (.tup [z]) ∧ 2 ≤ k ∧ k ≤ 64 ∧ ∀ c H', Same H H' → H' c = some (.tup (List.replicate k z)) → Q (.ref c) H'
theorem mulT {H : Hp} {Q : VK} {a : Addr} {z : V} {k : Nat} (h : H a = some (.tup [z])) (h2 : 2 ≤ k) (hk : k ≤ 64) (q : ∀ c H', Same H H' → H' c = some (.tup (List.replicate k z)) → Q (.ref c) H') : rMulT (.ref a) (.int (k : Int)) H Q := by
  unfold rMulT; exact ⟨a, z, k, rfl, rfl, h, h2, hk, q⟩
section
variable {X : Cx}
theorem op_mulT : OpR X (binaryOp .Mult) rMulT := by
  unfold rMulT
  intro pins s σ H x y v u Q I rx ry h
  obtain ⟨a, z, k, rfl, rfl, hH, h2, hk, q⟩ := h
  cases rx
  obtain ⟨t, rfl⟩ := (show ∃ t, u = Value.int (k : Int) t from ry)
  obtain ⟨its, r, p, _⟩ := I.tuple (SqT.of hH)
  obtain ⟨w1, rfl, rw1⟩ := vals1 r
  obtain ⟨⟨cls, dd, data, sl⟩, ho, hc, n, hd⟩ := id p
  simp only at hc hd
  subst hc hd
  have flat1 : ∀ k : Nat, (List.replicate k [w1]).flatten = List.replicate k w1 := fun k => by
    induction k with
    | zero => rfl
    | succ k ih => rw [List.replicate_succ, List.flatten_cons, ih, List.replicate_succ]; rfl
  have f0 : List.foldl (fun x1 x2 => x1 ++ x2) #[] (List.replicate k [w1].toArray) = (List.replicate k w1).toArray := by
    have := foldl_rep [w1] k []
    rw [List.nil_append, flat1] at this
    exact this
  have vr : ∀ k : Nat, Vals (List.replicate k z) (List.replicate k w1) := fun k => by
    induction k with
    | zero => exact .nil
    | succ k ih => exact .cons rw1 ih
  generalize hk' : (k : Int) = kk
  have hkk : kk.toNat = k := by (first | lia | omega)
  refine wpAny_binaryOp_repeat_ref (T := "tuple") (U := "int") (by decide) ⟨_, ho, rfl⟩ (fun s' => typeIs_int s' kk t) noFill_tuple_mul F.fills_int_mul F.slot_int_rmul repeat_tuple F.slot_int_index.lookup
    (call_meets F.slot_int_rmul (typeIs_int s kk t) F.entry_int_rmul (F.args_int_rmul_2 _ _) (int_rmul_tuple kk t a [w1].toArray n dd sl) ⟨ho, rfl, ⟨_, ho, rfl⟩, ?_⟩)
  refine call_meets F.slot_tuple_mul ⟨_, ho, rfl⟩ F.entry_tuple_mul (F.args_tuple_mul_2 _ _) (tuple_mulM a [w1].toArray n dd sl kk t (by (first | lia | omega)) (by (first | lia | omega)) rfl (by show 1 ≤ 64; decide) (by rw [hkk, f0, List.size_toArray, List.length_replicate]; exact Nat.le_trans hk (by decide))) ⟨ho, ?_⟩
  rw [hkk, f0]
  refine ⟨.ref _, _, I.laid (t' := s.toks) (o := .tup (List.replicate k z)) (fun b ob q => Heap.get?_push_of_some _ q) (Nat.le_refl _) ?_, rfl, q _ _ (Same.upd (I.hok.fresh (Nat.le_refl _))) upd_same⟩
  exact ⟨⟨by rw [List.length_replicate]; exact small64 hk, _, Heap.get?_push_size _ rfl, rfl⟩, _, vr k, IsTup.new _ _⟩
end
end L2
set_option Elab.async false
set_option linter.all false
set_option maxRecDepth 100000
namespace L2
open PySem PySem.Spec PyProof.Rows
/-! ### l.extend(list) -/
@[irreducible] def rExt : V → List V → Hp → VK → Prop := rExtend
theorem mt_ext {X : Cx} : MtR X "list.extend" rExt := by unfold rExt; exact mt_extend
theorem extL {H : Hp} {l b : Addr} {xs zs : List V} {Q : VK} (h : H l = some (.lst xs)) (h2 : H b = some (.lst zs)) (hz : xs.length + zs.length ≤ 1000) (k : ∀ H', H' l = some (.lst (xs ++ zs)) → SameBut l H H' → Q .non H') : rExt (.ref l) [.ref b] H Q := by
  unfold rExt; exact ⟨l, b, xs, zs, rfl, rfl, h, h2, Nat.le_of_lt (small1000 hz), k _ upd_same SameBut.self⟩
/-! ### sum of a tuple of ints -/
section
variable {prog : Program} {w : World} {A : Around} {E : Value → Shared → Prop} {s : Shared} {l : Addr} {xs : Array (Int × Tok)}
theorem sum_tupG {Q : Value → Shared → Prop} (hh : A.handled = none) (hl : s.heap.IsTuple l (intItems xs))
    (h : ∀ h' tk t', (∀ b o, s.heap.get? b = some o → h'.get? b = some o) → Q (.int (preSum (numAt xs) xs.size) t') { s with heap := h', toks := tk }) :
    wpAny (model prog w) A (call (.builtin "sum") [.ref l]) Q E s := by
  have hlt : l < s.heap.objs.size := by obtain ⟨_, e, _⟩ := hl; exact Heap.lt_size e
  refine call_sum_walkG (wpAny_pyIter_tuple hl ?_)
  refine ⟨_, [_, l], [_], _, _, _, numAt xs, rfl, Walks.tuple (A := A.in1) hh _ l (Nat.ne_of_lt hlt) (intItems xs), ⟨⟨_, Heap.get?_push_size _ rfl, rfl, rfl⟩, hl.push _⟩, fun c hc => ?_, (fun _ _ => intItems_at), fun h' tk t' hk => ?_⟩
  · show c < (s.heap.push _).objs.size
    rw [Heap.size_push]
    rcases List.mem_cons.mp hc with rfl | hc
    · exact Nat.lt_succ_self _
    · rcases List.mem_cons.mp hc with rfl | hc
      · exact Nat.lt_succ_of_lt hlt
      · cases hc
  · have := h h' tk t' fun c o e => by
      refine hk c o (fun hm => ?_) (Heap.get?_push_of_some _ e)
      rcases List.mem_cons.mp hm with e1 | hm
      · exact absurd (e1 ▸ Heap.lt_size e) (Nat.lt_irrefl _)
      · cases hm
    simpa [intItems] using this
end
@[irreducible] def rSumT (K : PySem.W.Frag) : List V → Hp → VK → Prop := fun xs H Q => ∃ (p : Addr) (ns : List Int), xs = [.ref p] ∧ SqT K H p (ns.map V.int) ∧ Q (.int ns.sum) H
theorem rsT {K : PySem.W.Frag} {H : Hp} {p : Addr} {ns : List Int} {Q : VK} (h : SqT K H p (ns.map V.int)) (q : Q (.int ns.sum) H) : rSumT K [.ref p] H Q := by unfold rSumT; exact ⟨p, ns, rfl, h, q⟩
theorem cl_sumT {X : Cx} (K : PySem.W.Frag) (hc : X.calm = true) (hK : X.K = K := by rfl) : CallR X (.builtin "sum") (rSumT K) := by
  subst hK
  unfold rSumT
  intro pins s σ H xs us Q I r h
  obtain ⟨p, ns, rfl, hq, q⟩ := h
  obtain ⟨u, rfl, rx⟩ := vals1 r
  cases rx
  obtain ⟨its, r', pl, hz⟩ := I.tuple hq
  have hi := intsAre_of r'
  obtain ⟨xs', e⟩ := hi.allInts.items
  rw [e] at pl
  refine sum_tupG (I.ok.hd hc) pl fun h' tk t' hk => ⟨.int ns.sum, H, I.kept hk, ⟨t', ?_⟩, q⟩
  rw [preSum_eq, List.take_of_length_le (by simp)]
  rw [← hi.numsOf]
  have e2 : its = (intItems xs').toList := by rw [← e]
  rw [e2, nums_intItems]
/-! ### [x for x in list if test] -/
section
variable {js : List Nat} {te : TE} {tc : TT} {σ : St} {H : Hp} {Q : VK}
theorem RepL.atI {α : Type} {g : α → PyData} : ∀ {as : List α} {xs : List V}, RepL H (as.map g) xs → ∀ {i : Nat} {x : V}, xs[i]? = some x → ∃ a, as[i]? = some a ∧ Rep H (g a) x := by
  intro as xs r i x e
  obtain ⟨d, h1, h2⟩ := r.get e
  rw [List.getElem?_map] at h1
  cases q : as[i]? with
  | none => rw [q] at h1; cases h1
  | some a => rw [q] at h1; cases h1; exact ⟨a, rfl, h2⟩
theorem comp_fltD {K : PySem.W.Frag} {a : Addr} {xs : List V} {α : Type} {g : α → PyData} {as : List α} (r : RepL H (as.map g) xs) (p : α → Bool) (hz : xs.length ≤ 100000) (hl : H a = some (.lst xs))
    (ht : ∀ x c H' (Q' : Bool → Hp → Prop), c ∈ as → Rep H' (g c) x → Same H H' → (∀ H5, Same H' H5 → Q' (p c) H5) → tc (some x :: slots σ js) H' Q')
    (he : ∀ x H' (Q' : VK), Q' x H' → te (some x :: slots σ js) H' Q')
    (hd : ∀ D ys H', H D = none → H' D = some (.lst ys) → Same H H' → RepL H' ((as.filter p).map g) ys → Q (.ref D) H') : CompB (Itl K a) σ js tc te H Q := by
  unfold CompB
  intro D hD
  have hlen : xs.length = as.length := by rw [r.len, List.length_map]
  refine ⟨fun i m ys H' => m = xs.length - i ∧ i ≤ xs.length ∧ H' D = some (.lst ys) ∧ Same H H' ∧ RepL H (((as.take i).filter p).map g) ys ∧ ys.length ≤ i, ⟨xs.length, by simp, Nat.zero_le _, upd_same, Same.upd hD, RepL.nil, Nat.le_refl _⟩, ?_⟩
  rintro i m ys H2 ⟨rfl, hi, hD2, s2, ry, hy⟩
  refine ⟨hD2, ?_⟩
  by_cases hlt : i < xs.length
  · have hx : xs[i]? = some xs[i] := List.getElem?_eq_getElem hlt
    refine .inr ⟨⟨xs, _, SqL.of (s2 _ _ hl), hx⟩, Nat.lt_of_le_of_lt (m := 100000) (by (first | lia | omega)) (by decide), fun x H3 hy3 => ?_⟩
    obtain ⟨rfl, hx3⟩ := hy3
    have hx3 := hx3 xs (SqL.of (s2 _ _ hl))
    obtain ⟨c, hc, rc⟩ := r.atI hx3
    have hti : as.take (i + 1) = as.take i ++ [c] := by rw [List.take_add_one, hc]; rfl
    refine ⟨fun b H4 => b = p c ∧ Same H3 H4, ht x c H3 _ (List.mem_of_getElem? hc) (rc.same s2) s2 fun H5 s5 => ⟨rfl, s5⟩, ?_⟩
    rintro b H4 ⟨rfl, s4⟩
    by_cases hp : p c = true
    · rw [if_pos hp]
      refine ⟨fun y H5 => y = x ∧ H5 = H4, he x H4 _ ⟨rfl, rfl⟩, ?_⟩
      rintro y H5 ⟨rfl, rfl⟩
      refine ⟨s4 _ _ hD2, _, ?_, rfl, hlt, upd_same, Same.thru hD (s2.trans s4) SameBut.self, ?_, ?_⟩
      · (first | lia | omega)
      · rw [hti, List.filter_append, List.map_append]
        have : List.filter p [c] = [c] := by simp [hp]
        rw [this]
        exact RepL.snoc ry rc
      · rw [List.length_append, List.length_singleton]; (first | lia | omega)
    · rw [if_neg hp]
      refine ⟨s4 _ _ hD2, _, ?_, rfl, hlt, s4 _ _ hD2, s2.trans s4, ?_, ?_⟩
      · (first | lia | omega)
      · rw [hti, List.filter_append]
        have : List.filter p [c] = [] := by simp [hp]
        rw [this, List.append_nil]
        exact ry
      · (first | lia | omega)
  · have e : i = xs.length := by (first | lia | omega)
    subst e
    refine .inl ⟨⟨xs, SqL.of (s2 _ _ hl), Nat.le_refl _⟩, hd D ys H2 hD hD2 s2 ?_⟩
    rw [hlen, List.take_length] at ry
    exact ry.same s2
end
end L2
set_option Elab.async false
set_option linter.all false
set_option maxRecDepth 100000
namespace L2
open PySem PySem.Spec PyProof.Rows
theorem wt_mono {X : Cx} {e : Expr} {t : TT} (h : PTw X e t) : PTw X e (tMono t) := ⟨h.p.mono⟩
end L2
set_option Elab.async false
set_option linter.all false
set_option maxRecDepth 100000
/-! slices of tuples, the whole among them; tuple * int, by nought and one too -/
namespace HT
open PySem PyProof.Rows
section
variable {prog : Program} {w : World} {A : Around} {E : Value → Shared → Prop} {s : Shared}
theorem getItem_tuple_whole {t sl : Addr} {items : Array Value} {vl vu : Value} {lo hi : Option Int} {Q : Value → Shared → Prop} (ht : IsTup s.heap t items) (hs : s.heap.IsSliceOf sl vl vu .none) (pl : IsPart vl lo) (pu : IsPart vu hi)
    (h0 : sIx items.size 0 lo = 0) (h1 : sIx items.size items.size hi = items.size) (h : Q (.ref t) s) : wpAny (model prog w) A (getItem (.ref t) (.ref sl)) Q E s := by
  obtain ⟨os, hos, hcs, hds⟩ := id hs
  have hTs : s.TypeIs (.ref sl) "slice" := ⟨os, hos, hcs⟩
  have hTt : s.TypeIs (.ref t) "tuple" := ht.typeIs
  unfold getItem
  try with_reducible refine wpAny_holding ?_
  first | refine wpAny_bind (wpAny_pure ?_) | skip
  refine wpAny_bind (wpAny_sequenceKey ht.typeIs (by decide) ?_)
  refine wpAny_bind (wpAny_callSpecial?_slot (name := Str.ofString "__getitem__") ht.typeIs PyProof.Rows.slot_tuple_getitem
    (wpAny_call_entry PyProof.Rows.slot_tuple_getitem ht.typeIs entry_tuple_getitem ?_ (args_tuple_getitem _ _)))
  show wpAny _ _ (Builtin.Tuple.tupleItemsOf (.ref t) >>= _) _ _ s
  refine wpAny_bind (tupleItemsOf_ ht ?_)
  refine wpAny_bind (wpAny_typeOf hTs ?_)
  rw [if_pos (by decide)]
  refine wpAny_bind (sliceApplied_gen hs pl pu ?_)
  have hyes : (((sIx items.size 0 lo : Nat) : Int) == 0 && (1 : Int) == 1 && (sIx items.size items.size hi - sIx items.size 0 lo) == items.size) = true := by
    rw [h0, h1]; simp
  show wpAny _ _ (if (((sIx items.size 0 lo : Nat) : Int) == 0 && (1 : Int) == 1 && (sIx items.size items.size hi - sIx items.size 0 lo) == items.size) = true then _ else _) _ _ s
  rw [if_pos hyes]
  unfold Builtin.Tuple.tupleIsExact
  refine wpAny_bind (wpAny_bind (wpAny_typeOf hTt (wpAny_pure ?_)))
  rw [if_pos (by decide)]
  refine wpAny_bind (wpAny_rule ?_)
  first
    | exact wpAny_pure ⟨_, rfl, wpAny_pure h⟩
    | exact wpAny_bind (wpAny_pure (wpAny_pure ⟨_, rfl, wpAny_pure h⟩))
end
end HT
namespace L2
open PySem PySem.W PySem.Spec PySem.Calls PyProof.Rows
theorem cutV_whole {xs : List V} {lo hi : Option Int} (h0 : HT.sIx xs.length 0 lo = 0) (h1 : HT.sIx xs.length xs.length hi = xs.length) : cutV xs lo hi = xs := by
  unfold cutV
  rw [h0, h1]; simp
section
variable {X : Cx}
@[irreducible] def rSlA (K : PySem.W.Frag) : V → Option Int → Option Int → Hp → VK → Prop := fun x lo hi H Q => ∃ a xs, x = .ref a ∧ H a = some (.tup xs) ∧ ∀ c H', Same H H' → H' c = some (.tup (cutV xs lo hi)) → Q (.ref c) H'
theorem sl_tupA (K : PySem.W.Frag) (hK : X.K = K := by rfl) : SlR X (rSlA K) := by
  unfold rSlA
  subst hK
  intro pins s σ H x v vl vu lo hi sl Q I rx hs pl pu h
  obtain ⟨a, xs, rfl, hx, q⟩ := h
  by_cases hw : HT.sIx xs.length 0 lo = 0 ∧ HT.sIx xs.length xs.length hi = xs.length
  · cases rx
    obtain ⟨its, r, ht, hz⟩ := I.tuple (SqT.of hx)
    have hlen : its.toArray.size = xs.length := by rw [List.size_toArray]; exact r.length.symm
    refine ⟨"tuple", _, PyProof.Rows.slot_tuple_getitem.lookup, ht.typeIs, ?_⟩
    refine HT.getItem_tuple_whole ht hs pl pu (by rw [hlen]; exact hw.1) (by rw [hlen]; exact hw.2) ?_
    exact ⟨.ref a, H, I, rfl, q a H (Same.refl _) (by rw [cutV_whole hw.1 hw.2]; exact hx)⟩
  · exact sl_tup pins s σ H (.ref a) v vl vu lo hi sl Q I rx hs pl pu ⟨a, xs, rfl, SqT.of hx, hw, fun p hp => q p _ (Same.upd hp) upd_same⟩
theorem slA_hi {K : PySem.W.Frag} {H : Hp} {a : Addr} {xs : List V} {k : Nat} {Q : VK} (h : H a = some (.tup xs)) (q : ∀ c H', Same H H' → H' c = some (.tup (xs.take k)) → Q (.ref c) H') : rSlA K (.ref a) none (some (k : Int)) H Q := by
  unfold rSlA
  exact ⟨a, xs, rfl, h, fun c H' s e => q c H' s (by rw [e, cutV_hi])⟩
theorem slA_lo {K : PySem.W.Frag} {H : Hp} {a : Addr} {xs : List V} {k : Nat} {Q : VK} (h : H a = some (.tup xs)) (q : ∀ c H', Same H H' → H' c = some (.tup (xs.drop k)) → Q (.ref c) H') : rSlA K (.ref a) (some (k : Int)) none H Q := by
  unfold rSlA
  exact ⟨a, xs, rfl, h, fun c H' s e => q c H' s (by rw [e, cutV_lo])⟩
end
end L2
set_option Elab.async false
set_option linter.all false
set_option maxRecDepth 100000
namespace L2
open PySem PySem.Spec PyProof.Rows
/-! ### dicts with the keys of a display -/
theorem Room.u1 {k : Nat} {A : Around} (r : Room k A) : A.units + 1 < cLine := by have := r.units; (first | lia | omega)
@[irreducible] def rDG : R2 := fun x y H Q => ∃ a v, x = .ref a ∧ DGet H a y (some v) ∧ Q v H
@[irreducible] def rDP (D : Ends) (σ : St) (x y v : V) (H : Hp) : Prop := ∃ a H4, x = .ref a ∧ DPut H a y v H4 ∧ D.nx σ H4
def tDPut (td ty tv : TE) : TS := fun D σ H => tv σ H fun v H1 => td σ H1 fun x H2 => ty σ H2 fun y H3 => rDP D σ x y v H3
structure PPsw (X : Cx) (pos : Pos) (keys : List (Option Expr)) (values : List Expr) (trs : List (TE × TE)) : Prop where p : PPs X pos keys values trs
section
variable {X : Cx} {o i value k v : Expr} {td ty tv tk : TE} {pos pos' : Pos} {ks : List (Option Expr)} {vs : List Expr} {trs : List (TE × TE)}
theorem we_dget (hu : X.A.units + 1 < cLine) (ho : PEw X o td) (hi : PEw X i ty) (hs : NoSl i := by intro _ _; rfl) : PEw X (.Subscript o i pos) (tOp rDG td ty) := ⟨by unfold rDG; exact pe_dget hu ho.p hi.p hs⟩
theorem ws_dput (hu : X.A.units + 1 < cLine) (ho : PEw X o td) (hi : PEw X i ty) (hv : PEw X value tv) (hs : swapsWith value (some (.Subscript o i pos')) pos.line X.env = pure false := by rfl) :
    PSw X (.Assign [.Subscript o i pos'] value pos) (tDPut td ty tv) := ⟨by unfold tDPut rDP; exact ps_dput hu ho.p hi.p hv.p hs⟩
theorem wpp_nil : PPsw X pos [] [] [] := ⟨pps_nil⟩
theorem wpp_cons (hk : PEw X k tk) (hv : PEw X v tv) (hr : PPsw X pos ks vs trs) : PPsw X pos (some k :: ks) (v :: vs) ((tk, tv) :: trs) := ⟨pps_cons hk.p hv.p hr.p⟩
theorem we_disp (h : PPsw X pos ks vs trs) (hall : ks.all (·.isSome) = true := by rfl) (hl : ks.length = vs.length := by rfl) (h0 : ks ≠ [] := by intro h; cases h) (h15 : ks.length ≤ 15 := by decide) : PEw X (.Dict ks vs pos) (tDisp trs) := ⟨pe_disp h.p hall hl h0 h15⟩
end
theorem dgS {H : Hp} {p : Addr} {kvs : List (Key × V)} {x : Str} {v : V} {Q : VK} (e : H p = some (.dK kvs)) (hv : valV kvs (.inr x) = some v) (q : Q v H) : rDG (.ref p) (.str x) H Q := by
  unfold rDG; exact ⟨p, v, rfl, hv ▸ DGet.k (k := .inr x) e, q⟩
theorem dpS {H : Hp} {p : Addr} {kvs kvs2 : List (Key × V)} {x : Str} {v : V} {D : Ends} {σ : St} (e : H p = some (.dK kvs)) (hl : kvs.length ≤ 64) (hk : putK kvs (.inr x) v = kvs2) (q : ∀ H', H' p = some (.dK kvs2) → SameBut p H H' → D.nx σ H') :
    rDP D σ (.ref p) (.str x) v H := by
  unfold rDP
  exact ⟨p, _, rfl, DPut.k (k := .inr x) e (Nat.lt_of_le_of_lt hl (by decide)), q _ (by rw [hk]; exact upd_same) SameBut.self⟩
theorem SameBut.tD {H H' : Hp} {p : Addr} (s : SameBut p H H') {xs : List (Key × V)} (hp : H p = some (.dK xs)) : SameT H H' := fun b ys h => s.at (ne_of h hp (by intro z; cases z)) h
/-- what a tape at p keeps: so many draws are left -/
structure TapeLike (p : Addr) (Fd : Nat → Hp → Prop) : Prop where
  but : ∀ n D H1 H2, D ≠ p → SameBut D H1 H2 → Fd n H1 → Fd n H2
  same : ∀ n H1 H2, Same H1 H2 → Fd n H1 → Fd n H2
  dic : ∀ n H', Fd n H' → ∃ xs, H' p = some (.dK xs)
section
variable {σ : St} {js : List Nat} {te : TE} {H : Hp} {Q : VK}
theorem TapeLike.np {p : Addr} {Fd : Nat → Hp → Prop} (fl : TapeLike p Fd) {n : Nat} {H' : Hp} {D : Addr} (F : Fd n H') (h : H' D = none) : D ≠ p := fun e => by
  obtain ⟨xs, hp⟩ := fl.dic n H' F
  subst e; rw [hp] at h; cases h
/-- items that draw from a tape, and make new tuples -/
theorem comp_tp {J : It} {n : Nat} {p : Addr} {Fd : Nat → Hp → Prop} (fl : TapeLike p Fd) (F0 : Fd 0 H) (src : Nat → V → Prop) (R : Nat → V → Hp → Prop) (hR : ∀ i y H1 H2, SameT H1 H2 → R i y H1 → R i y H2) (hz : n ≤ 100000)
    (hg : ∀ i H', SameBut p H H' → i < n → J.go i H' ∧ ∀ x H3, J.yld i H' x H3 → H3 = H' ∧ src i x) (hst : ∀ H', SameBut p H H' → J.stop n H')
    (hs : ∀ i x H' (Q' : VK), src i x → i < n → Fd i H' → SameBut p H H' → (∀ y H5, Fd (i + 1) H5 → SameBut p H' H5 → R i y H5 → Q' y H5) → te (some x :: slots σ js) H' Q')
    (hd : ∀ D ys H', H D = none → H' D = some (.lst ys) → Fd n H' → SameBut p H H' → ys.length = n → (∀ (i : Nat) (y : V), ys[i]? = some y → R i y H') → Q (.ref D) H') : CompB J σ js tYes te H Q := by
  refine comp_any (J := J) (n := n) src hz (fun D i ys H' => H D = none ∧ Fd i H' ∧ SameBut p H H' ∧ ∀ (i : Nat) (y : V), ys[i]? = some y → R i y H') (fun D H1 hD _ s => ⟨hD, fl.same _ _ _ s F0, s.but, fun i y h => by simp at h⟩)
    (fun D i ys H' hi _ q => hg i H' q.2.2.1 hi) (fun D ys H' _ q => hst H' q.2.2.1) (fun D i x ys H' hx hi hy hD q => ?_) (fun D ys H' hy hD hD' q => hd D ys H' hD hD' q.2.1 q.2.2.1 hy q.2.2.2)
  have np := fl.np F0 q.1
  refine hs i x H' _ hx hi q.2.1 q.2.2.1 fun y H5 F5 s5 r => ?_
  obtain ⟨xs, hp⟩ := fl.dic _ H' q.2.1
  have hD5 := s5.at np hD
  refine ⟨hD5, fun H6 hD6 s6 => ⟨q.1, fl.but _ D _ _ np s6 F5, SameBut.thru q.1 (q.2.2.1.trans s5) s6, ?_⟩⟩
  have t6 := s6.t hD5
  exact snoc_all (R := fun j z => R j z H6) (fun j z hj => hR j z _ _ ((s5.tD hp).trans t6) (q.2.2.2 j z hj)) (by rw [hy]; exact hR i y _ _ t6 r)
theorem comp_tpR {lo : Int} {n : Nat} {p : Addr} {Fd : Nat → Hp → Prop} (fl : TapeLike p Fd) (F0 : Fd 0 H) (R : Nat → V → Hp → Prop) (hR : ∀ i y H1 H2, SameT H1 H2 → R i y H1 → R i y H2) (hz : n ≤ 100000)
    (hs : ∀ i H' (Q' : VK), i < n → Fd i H' → SameBut p H H' → (∀ y H5, Fd (i + 1) H5 → SameBut p H' H5 → R i y H5 → Q' y H5) → te (some (.int (lo + (i : Nat))) :: slots σ js) H' Q')
    (hd : ∀ D ys H', H D = none → H' D = some (.lst ys) → Fd n H' → SameBut p H H' → ys.length = n → (∀ (i : Nat) (y : V), ys[i]? = some y → R i y H') → Q (.ref D) H') : CompB (Itr lo n) σ js tYes te H Q :=
  comp_tp fl F0 (fun i x => x = .int (lo + (i : Nat))) R hR hz (fun i H' s hi => ⟨hi, fun x H3 y => y⟩) (fun H' s => Nat.le_refl _)
    (fun i x H' Q' hx hi f s k => by subst hx; exact hs i H' Q' hi f s k) hd
end
end L2
set_option Elab.async false
set_option linter.all false
set_option maxRecDepth 100000
/-! ### sorted(list of tuples of ints), fewer than 64 -/
namespace HT
open PySem PySem.W PyProof.Rows
/-- what a tree of questions comes to, the answers by lt, all questions below n -/
def KasAll {α : Type} (n : Nat) (lt : Nat → Nat → Bool) (R : α → Prop) : KasT α → Prop
  | .ret a => R a
  | .ask i j k => i < n ∧ j < n ∧ KasAll n lt R (k (lt i j))
section
variable {n : Nat} {lt : Nat → Nat → Bool}
theorem KasAll.bind {α β : Type} {R : α → Prop} {S : β → Prop} {f : α → KasT β} : ∀ {t : KasT α}, KasAll n lt R t → (∀ a, R a → KasAll n lt S (f a)) → KasAll n lt S (t.bind f)
  | .ret a, h, k => k a h
  | .ask i j t, ⟨h1, h2, h3⟩, k => ⟨h1, h2, KasAll.bind (t := t (lt i j)) h3 k⟩
theorem KasAll.wp {α : Type} {R : α → Prop} {cmp : Nat → Nat → (Bool → Shared → Prop) → Shared → Prop} {Q : α → Shared → Prop} {s : Shared} (hc : ∀ i j C, i < n → j < n → C (lt i j) s → cmp i j C s) (q : ∀ a, R a → Q a s) :
    ∀ {t : KasT α}, KasAll n lt R t → t.kasWp cmp Q s
  | .ret a, h => q a h
  | .ask i j t, ⟨h1, h2, h3⟩ => hc i j _ h1 h2 (KasAll.wp (t := t (lt i j)) hc q h3)
def Good (n : Nat) (p : Array Nat) : Prop := p.Perm (List.toArray (List.range n))
theorem Good.bd {p : Array Nat} (g : Good n p) (hn : 0 < n) (i : Nat) : p.getD i 0 < n := by
  by_cases hi : i < p.size
  · have e : p.getD i 0 = p[i] := by simp [Array.getD, hi]
    rw [e]
    have m : p[i] ∈ List.toArray (List.range n) := (Array.Perm.mem_iff g).mp (Array.getElem_mem hi)
    simpa using m
  · have e : p.getD i 0 = 0 := by simp [Array.getD, hi]
    rw [e]; exact hn
theorem Good.rev {p : Array Nat} (g : Good n p) (i j : Nat) : Good n (kas_rev p i j) := (mirror_perm p i j _).trans g
theorem Good.bub {p : Array Nat} (g : Good n p) (i j : Nat) : Good n (bubble p i j) := (bubble_perm p i j).trans g
theorem all_asc {p : Array Nat} (g : Good n p) (hn : 0 < n) : ∀ (f m : Nat), KasAll n lt (fun _ => True) (kas_asc p f m)
  | 0, m => True.intro
  | f + 1, m => ⟨g.bd hn _, g.bd hn _, by
    cases lt (p.getD m 0) (p.getD (m - 1) 0) with
    | true => exact True.intro
    | false => exact all_asc g hn f (m + 1)⟩
theorem all_desc (hn : 0 < n) : ∀ (f : Nat) {p : Array Nat} (g : Good n p) (m q : Nat), KasAll n lt (fun r => Good n r.1) (kas_desc f p m q)
  | 0, p, g, m, q => g
  | f + 1, p, g, m, q => by
    refine ⟨g.bd hn _, g.bd hn _, ?_⟩
    cases lt (p.getD m 0) (p.getD (m - 1) 0) with
    | true =>
      show KasAll n lt _ (if q > 0 then _ else _)
      split
      · exact all_desc hn f (g.rev _ _) _ _
      · exact all_desc hn f g _ _
    | false =>
      refine ⟨g.bd hn _, g.bd hn _, ?_⟩
      cases lt (p.getD (m - 1) 0) (p.getD m 0) with
      | true => exact g
      | false => exact all_desc hn f g _ _
theorem all_tail3 {p : Array Nat} (g : Good n p) (hn : 0 < n) (m r : Nat) : KasAll n lt (fun r => Good n r.2) (kas_tail3 m r p) := by
  unfold kas_tail3
  exact (all_asc (g.rev 0 m) hn _ _).bind fun _ _ => g.rev 0 m
theorem all_descPart {p : Array Nat} (g : Good n p) (hn : 0 < n) (m r : Nat) : KasAll n lt (fun r => Good n r.2) (kas_descPart m r p) := by
  unfold kas_descPart
  refine (all_desc hn _ g _ _).bind fun r hr => ?_
  split
  · exact all_tail3 (Good.rev hr _ _) hn _ _
  · exact all_tail3 hr hn _ _
theorem all_count {p : Array Nat} (g : Good n p) (hn : 0 < n) (m : Nat) : KasAll n lt (fun r => Good n r.2) (kas_count m p) := by
  unfold kas_count
  refine (all_asc g hn _ _).bind fun k _ => ?_
  split
  · exact g
  · split
    · refine ⟨g.bd hn _, g.bd hn _, ?_⟩
      cases lt (p.getD 0 0) (p.getD (k - 1) 0) with
      | true => exact g
      | false => exact all_descPart (g.rev _ _) hn _ _
    · exact all_descPart g hn _ _
theorem all_place {p : Array Nat} (g : Good n p) (hn : 0 < n) (k : Nat) : ∀ (f l r : Nat), KasAll n lt (fun _ => True) (kas_place p k f l r)
  | 0, l, r => True.intro
  | f + 1, l, r => by
    unfold kas_place
    split
    · exact True.intro
    · refine ⟨g.bd hn _, g.bd hn _, ?_⟩
      cases lt (p.getD k 0) (p.getD ((l + r) / 2) 0) with
      | true => exact all_place g hn k f _ _
      | false => exact all_place g hn k f _ _
theorem all_bin (hn : 0 < n) : ∀ (f : Nat) {p : Array Nat} (g : Good n p) (k : Nat), KasAll n lt (Good n) (kas_bin f p k)
  | 0, p, g, k => g
  | f + 1, p, g, k => by
    unfold kas_bin
    exact (all_place g hn k _ _ _).bind fun l _ => all_bin hn f (g.bub _ _) _
theorem all_sort (hn : 0 < n) : KasAll n lt (Good n) (kas_sort n) := by
  unfold kas_sort
  refine (all_count (Array.Perm.refl _) hn n).bind fun r hr => ?_
  split
  · exact all_bin hn _ hr _
  · exact hr
end
end HT
set_option Elab.async false
set_option linter.all false
set_option maxRecDepth 100000
namespace L2
open PySem PySem.Spec PySem.W PyProof.Rows HT
theorem valsC {x : V} {xs : List V} {us : List Value} (r : Vals (x :: xs) us) : ∃ u us', us = u :: us' ∧ RelV x u ∧ Vals xs us' := by
  cases r with
  | cons h t => exact ⟨_, _, rfl, h, t⟩
/-- tuples of ints by places -/
def lexF (fin : Bool) : List Int → List Int → Bool
  | x :: a, y :: b => if x = y then lexF fin a b else decide (x < y)
  | _, _ => fin
def lexB (a b : List Int) : Bool := lexF (decide (a.length < b.length)) a b
section
variable {prog : Program} {w : World} {A : Around} {E : Value → Shared → Prop} {s : Shared} {Q : Bool → Shared → Prop}
theorem katLex_ints {fin : Bool} : ∀ {a b : List Int} {us vs : List Value} {i : Nat}, Vals (a.map V.int) us → Vals (b.map V.int) vs → Q (lexF fin a b) s → KatLex prog w A true fin Q (us.zip vs) i s
  | [], b, us, vs, i, ha, hb, q => by cases ha; exact kat_nil (by unfold lexF at q; exact q)
  | x :: a, [], us, vs, i, ha, hb, q => by
    cases hb
    cases us with
    | nil => exact kat_nil (by unfold lexF at q; exact q)
    | cons u us => exact kat_nil (by unfold lexF at q; exact q)
  | x :: a, y :: b, us, vs, i, ha, hb, q => by
    rw [List.map_cons] at ha hb
    obtain ⟨u, us', rfl, ⟨t, rfl⟩, ra⟩ := valsC ha
    obtain ⟨v, vs', rfl, ⟨t', rfl⟩, rb⟩ := valsC hb
    rw [List.zip_cons_cons]
    refine kat_cons (wpAny_eqBool_int ?_)
    unfold lexF at q
    by_cases h : x = y
    · rw [if_pos h] at q
      rw [show (x == y) = true by simp [h]]
      exact kat_yes (katLex_ints ra rb q)
    · rw [if_neg h] at q
      rw [show (x == y) = false by simp [h]]
      refine kat_no ?_
      cases (true && i == 0) with
      | true => exact oneLt_int q
      | false => exact kat_one _ _ (lt_int q)
/-- one of the tuples -/
def TupAt (h : Heap) (v : Value) (c : List Int) : Prop := ∃ b its, v = .ref b ∧ IsTup h b (List.toArray its) ∧ Vals (c.map V.int) its ∧ c ≠ []
abbrev TupsAt (h : Heap) : List Value → List (List Int) → Prop := Paired (TupAt h)
theorem TupsAt.get {h : Heap} : ∀ {vs : List Value} {cs : List (List Int)} {i : Nat}, TupsAt h vs cs → i < vs.length → TupAt h (vs.getD i Value.none) (cs.getD i [])
  | _, _, _, .nil, hi => by simp at hi
  | _, _, 0, .cons t r, hi => t
  | v :: vs, c :: cs, i + 1, .cons t r, hi => by
    have := TupsAt.get (i := i) r (by simpa using hi)
    simpa using this
theorem TupsAt.firsts {h : Heap} : ∀ {vs : List Value} {cs : List (List Int)}, TupsAt h vs cs → ∃ fs, KatTups h vs fs ∧ fs.length = vs.length ∧ ∀ v ∈ fs, ∃ i t, v = Value.int i t
  | _, _, .nil => ⟨[], KatTups.nil, rfl, fun v hv => by cases hv⟩
  | v :: vs, c :: cs, .cons t r => by
    obtain ⟨fs, h1, h2, h3⟩ := TupsAt.firsts r
    obtain ⟨b, its, rfl, ⟨o, ho, hc, n, hd⟩, hv, hne⟩ := t
    cases c with
    | nil => exact absurd rfl hne
    | cons x c =>
      rw [List.map_cons] at hv
      obtain ⟨u, us, rfl, ⟨t, rfl⟩, _⟩ := valsC hv
      exact ⟨.int x t :: fs, KatTups.cons ho hc hd (by simp) h1, by simp [h2], fun v hv => by
        rcases List.mem_cons.mp hv with rfl | hv
        · exact ⟨_, _, rfl⟩
        · exact h3 v hv⟩
theorem TupsAt.keep {h h' : Heap} (k : ∀ b o, h.get? b = some o → o.cls = .type "tuple" → h'.get? b = some o) : ∀ {vs : List Value} {cs : List (List Int)}, TupsAt h vs cs → TupsAt h' vs cs
  | _, _, .nil => .nil
  | _, _, .cons ⟨b, its, e, ⟨o, ho, hc, hd⟩, hv, hne⟩ r => .cons ⟨b, its, e, ⟨o, k b o ho hc, hc, hd⟩, hv, hne⟩ (TupsAt.keep k r)
theorem sort_tups {a : Addr} {vs : List Value} {cs : List (List Int)} {n : Nat} {P : PySem.Fin → Shared → Prop} (ho : s.heap.get? a = some (seqObj "list" vs.toArray n)) (ht : TupsAt s.heap vs cs) (h64 : vs.length < 64)
    (h : ∀ p : Array Nat, Good vs.length p → P (.done (.ret .none)) { s with heap := sortedHeap s.heap a vs (List.toArray (p.toList.map fun i => vs.getD i Value.none)) }) :
    wpAny (model prog w) A (Builtin.«list.sort» ⟨[.ref a], []⟩) P E s := by
  rw [list_sort_plain]
  have ha : a < s.heap.objs.size := Heap.lt_size ho
  refine wpAny_bind (listItems_at ho rfl ?_)
  refine wpAny_bind (listUpdate_at ho rfl ?_ (by rw [List.size_toArray, sizeLine_eq]; (first | lia | omega)) (Nat.zero_le _))
  obtain ⟨e1, ho1⟩ : ∃ e1, (s.heap.update a (Obj.mapSeq fun _ => #[])).get? a = some (seqObj "list" #[] e1) := ⟨_, get?_update_seq ho (fun _ => #[])⟩
  refine wpAny_bind (seqEpoch_at ho1 rfl ?_)
  refine wpAny_bind (wpAny_newTuple ?_ (by show vs.length ≤ _; rw [sizeLine_eq]; (first | lia | omega)))
  refine wpAny_bind (wpAny_newList ?_ (Nat.zero_le _))
  refine wpAny_holding ?_
  have ho6 : (((s.heap.update a (Obj.mapSeq fun _ => #[])).push (seqObj "tuple" vs.toArray 0)).push (seqObj "list" #[] 0)).get? a = some (seqObj "list" #[] e1) := by
    rw [Heap.get?_push_ne _ _ _ (by rw [size_push', Heap.size_update]; exact Nat.ne_of_lt (Nat.lt_succ_of_lt ha)), Heap.get?_push_ne _ _ _ (by rw [Heap.size_update]; exact Nat.ne_of_lt ha)]
    exact ho1
  show wpAny (model prog w) A _ P E { s with heap := ((s.heap.update a (Obj.mapSeq fun _ => #[])).push (seqObj "tuple" vs.toArray 0)).push (seqObj "list" #[] 0) }
  dsimp only
  have fin : ∀ st' : SortSt, ∀ p : Array Nat, Good vs.length p → (arrOf st').map (·.2) = List.toArray (p.toList.map fun i => vs.getD i Value.none) →
      P (.done (.ret .none)) { s with heap := sortedHeap s.heap a vs ((arrOf st').map (·.2)) } := by
    intro st' p hp hs
    rw [hs]; exact h p hp
  have ht6 : TupsAt (((s.heap.update a (Obj.mapSeq fun _ => #[])).push (seqObj "tuple" vs.toArray 0)).push (seqObj "list" #[] 0)) vs cs := ht.keep fun b o hb hc => by
    have hne : b ≠ a := fun e => by
      subst e; rw [ho] at hb; cases hb
      exact absurd (show Value.type "list" = Value.type "tuple" from hc) (by decide)
    exact Heap.get?_push_of_some _ (Heap.get?_push_of_some _ (by rw [Heap.get?_update_ne _ _ _ _ hne]; exact hb))
  by_cases h2 : vs.toArray.size < 2
  · rw [if_pos h2, if_pos h2]
    refine wpAny_bind (wpAny_pure ?_)
    rw [StateT.run_pure]
    refine wpAny_bind (wpAny_pure ?_)
    dsimp only
    refine wpAny_bind (seqEpoch_at ho6 rfl ?_)
    refine wpAny_bind (listUpdate_at ho6 rfl ?_ (hsz2 := by rw [Array.size_map]; show (pairsOf vs).size ≤ _; rw [pairsOf_size, sizeLine_eq]; (first | lia | omega)))
    simp only [bne_self_eq_false, Bool.false_eq_true, if_false]
    refine wpAny_pure (fin (SortSt.mk' general' (vs.toArray.zip vs.toArray) #[] 7 none) (List.toArray (List.range vs.length)) (Array.Perm.refl _) ?_)
    have e := kat_snds (ks := vs) (vs := vs) (st := SortSt.mk' general' (vs.toArray.zip vs.toArray) #[] 7 none) (p := List.toArray (List.range vs.length)) rfl (by
      have e := kas_range (vs.toArray.zip vs.toArray)
      rw [show (vs.toArray.zip vs.toArray).size = vs.length by simp] at e
      exact e.symm)
    exact e
  · rw [if_neg h2, if_neg h2]
    have hl2 : 2 ≤ vs.length := by rw [List.size_toArray] at h2; (first | lia | omega)
    obtain ⟨fs, k1, k2, k3⟩ := ht6.firsts
    refine wpAny_bind (kat_kind (T := .type "int") k1 (by (first | lia | omega)) (fun v hv => ?_) rfl ?_)
    · obtain ⟨i, t, rfl⟩ := k3 v hv
      exact .now
    refine wpAny_bind (wpAny_mono (kat_run (ks := vs) (vs := vs) (G := fun p s' => s' = { s with heap := ((s.heap.update a (Obj.mapSeq fun _ => #[])).push (seqObj "tuple" vs.toArray 0)).push (seqObj "list" #[] 0) } ∧ Good vs.length p)
      (Q := fun st' s' => s' = { s with heap := ((s.heap.update a (Obj.mapSeq fun _ => #[])).push (seqObj "tuple" vs.toArray 0)).push (seqObj "list" #[] 0) } ∧ failedOf st' = none ∧ ∃ p : Array Nat, p.size = vs.length ∧ Good vs.length p ∧ arrOf st' = p.map (kas_item (vs.toArray.zip vs.toArray)))
      rfl hl2 h64 (fun p' st' s' a1 a2 a3 a4 => ⟨a4.1, a3, p', a1, a4.2, a2⟩)
      (KasAll.wp (n := vs.length) (lt := fun i j => lexB (cs.getD i []) (cs.getD j [])) (R := Good vs.length) (fun i j C hi hj hC => ?_) (fun p hp => ⟨rfl, hp⟩) (all_sort (by (first | lia | omega))))) ?_ fun _ _ e => e)
    · obtain ⟨b, its, e1', ⟨o, hb, hc, n', hd⟩, hv, _⟩ := ht6.get hi
      obtain ⟨b2, its2, e2', ⟨o2, hb2, hc2, n2, hd2⟩, hv2, _⟩ := ht6.get hj
      unfold kas_ask
      rw [e1', e2']
      refine kat_lt hb hd hb2 hd2 ?_
      refine katLex_ints hv hv2 ?_
      have l1 := hv.length
      have l2 := hv2.length
      rw [List.length_map] at l1 l2
      rw [List.size_toArray, List.size_toArray, ← l1, ← l2]
      exact hC
    rintro ⟨⟨⟩, st'⟩ s' ⟨rfl, hf, p, hp, hg, har⟩
    dsimp only
    have hout := kat_snds rfl har
    refine wpAny_bind (seqEpoch_at ho6 rfl ?_)
    refine wpAny_bind (listUpdate_at ho6 rfl ?_ (hsz2 := by rw [hout, List.size_toArray, List.length_map, Array.length_toList, hp, sizeLine_eq]; (first | lia | omega)))
    rw [hf]
    simp only [bne_self_eq_false, Bool.false_eq_true, if_false]
    exact wpAny_pure (fin st' p hg hout)
theorem sorted_tups {l : Addr} {vs : List Value} {cs : List (List Int)} {Q : Value → Shared → Prop} (hl : s.heap.IsList l vs.toArray) (ht : TupsAt s.heap vs cs) (h64 : vs.length < 64)
    (h : ∀ (p : Array Nat) (h' : Heap) (D : Addr) (c : Nat), Good vs.length p → (∀ b o, s.heap.get? b = some o → h'.get? b = some o) → s.heap.objs.size ≤ D → h'.get? D = some (seqObj "list" (List.toArray (p.toList.map fun i => vs.getD i Value.none)) c) → Q (.ref D) { s with heap := h' }) :
    wpAny (model prog w) A (call (.builtin "sorted") [.ref l]) Q E s := by
  refine Calls.call_function_entry kind_sorted plain_sorted entry_sorted (args_sorted1 _) ?_
  unfold Builtin.«sorted»
  refine wpAny_bind (m := checkCount "sorted" 1 1 _) (wpAny_pure ?_)
  refine wpAny_bind (collect_list hl ?_ (by rw [sizeLine_eq]; (first | lia | omega)))
  refine wpAny_bind (wpAny_newList ?_ (by rw [sizeLine_eq]; (first | lia | omega)))
  have hsz : ((s.heap.push (seqObj "list" #[] 0)).update s.heap.objs.size (Obj.mapSeq (· ++ vs.toArray))).objs.size = s.heap.objs.size + 1 := by
    rw [Heap.size_update, size_push']
  have hoL : (((s.heap.push (seqObj "list" #[] 0)).update s.heap.objs.size (Obj.mapSeq (· ++ vs.toArray))).push (seqObj "list" vs.toArray 0)).get? (s.heap.objs.size + 1) = some (seqObj "list" vs.toArray 0) := by
    rw [← hsz]; exact Heap.get?_push_size _ rfl
  have keep : ∀ b o, s.heap.get? b = some o → (((s.heap.push (seqObj "list" #[] 0)).update s.heap.objs.size (Obj.mapSeq (· ++ vs.toArray))).push (seqObj "list" vs.toArray 0)).get? b = some o := fun b o q => by
    have hlt : b < s.heap.objs.size := Heap.lt_size q
    rw [Heap.get?_push_ne _ _ _ (by rw [hsz]; exact Nat.ne_of_lt (Nat.lt_succ_of_lt hlt)), Heap.get?_update_ne _ _ _ _ (Nat.ne_of_lt hlt), Heap.get?_push_ne _ _ _ (Nat.ne_of_lt hlt)]
    exact q
  show wpAny _ _ _ _ _ { s with heap := ((s.heap.push (seqObj "list" #[] 0)).update s.heap.objs.size (Obj.mapSeq (· ++ vs.toArray))).push (seqObj "list" vs.toArray 0) }
  rw [hsz]
  refine wpAny_bind (wpAny_holding (wpAny_call_entry slot_list_sort ⟨_, hoL, rfl⟩ entry_list_sort ?body (args_list_sort _)))
  generalize hH : ((s.heap.push (seqObj "list" #[] 0)).update s.heap.objs.size (Obj.mapSeq (· ++ vs.toArray))).push (seqObj "list" vs.toArray 0) = h1 at *
  refine sort_tups (s := { s with heap := h1 }) hoL (ht.keep fun b o hb _ => keep b o hb) h64 fun p hp => ⟨_, rfl, wpAny_pure ⟨_, rfl, ?_⟩⟩
  have hD : s.heap.objs.size + 1 < h1.objs.size := Heap.lt_size hoL
  unfold sortedHeap
  have o1 : (h1.update (s.heap.objs.size + 1) (Obj.mapSeq fun _ => #[])).get? (s.heap.objs.size + 1) = some (seqObj "list" #[] _) := get?_update_seq hoL (fun _ => #[])
  have o2 := Heap.get?_push_of_some (seqObj "list" #[] 0) (Heap.get?_push_of_some (seqObj "tuple" vs.toArray 0) o1)
  refine h p _ (s.heap.objs.size + 1) _ hp (fun b o q => ?_) (Nat.le_succ _) (get?_update_seq o2 fun _ => List.toArray (p.toList.map fun i => vs.getD i Value.none))
  have hlt : b < s.heap.objs.size := Heap.lt_size q
  have hne : b ≠ s.heap.objs.size + 1 := Nat.ne_of_lt (Nat.lt_succ_of_lt hlt)
  rw [Heap.get?_update_ne _ _ _ _ hne]
  exact Heap.get?_push_of_some _ (Heap.get?_push_of_some _ (by rw [Heap.get?_update_ne _ _ _ _ hne]; exact keep b o q))
end
/-- sorted(list of tuples of ints): the same ones, in some order -/
@[irreducible] def rSorted (K : PySem.W.Frag) : List V → Hp → VK → Prop := fun xs H Q => ∃ (p : Addr) (ys : List V) (cs : List (List Int)), xs = [.ref p] ∧ SqL K H p ys ∧ RepL H (cs.map fun c => PyData.tuple (c.map .int)) ys ∧ (∀ c ∈ cs, c ≠ []) ∧ ys.length < 64 ∧
  ∀ q (ix : List Nat) H', ix.Perm (List.range ys.length) → H q = none → H' q = some (.lst (ix.map fun i => ys.getD i .non)) → Same H H' → Q (.ref q) H'
theorem rsrt {K : PySem.W.Frag} {H : Hp} {Q : VK} {p : Addr} {ys : List V} {cs : List (List Int)} (h : SqL K H p ys) (r : RepL H (cs.map fun c => PyData.tuple (c.map .int)) ys) (hc : ∀ c ∈ cs, c ≠ []) (hz : ys.length < 64)
    (q : ∀ q (ix : List Nat) H', ix.Perm (List.range ys.length) → H q = none → H' q = some (.lst (ix.map fun i => ys.getD i .non)) → Same H H' → Q (.ref q) H') : rSorted K [.ref p] H Q := by
  unfold rSorted; exact ⟨p, ys, cs, rfl, h, r, hc, hz, q⟩
theorem tups_of {X : Cx} {pins : List (Addr × Obj)} {σ : St} {H : Hp} {s : Shared} (I : Inv X pins σ H s) : ∀ {cs : List (List Int)} {ys : List V} {us : List Value}, RepL H (cs.map fun c => PyData.tuple (c.map .int)) ys → (∀ c ∈ cs, c ≠ []) → Vals ys us → TupsAt s.heap us cs
  | [], ys, us, r, hc, v => by
    unfold RepL at r
    cases (show ys = [] from r)
    cases v
    exact .nil
  | c :: cs, ys, us, r, hc, v => by
    rw [List.map_cons] at r
    unfold RepL at r
    obtain ⟨y, ys', rfl, r1, r2⟩ := r
    obtain ⟨u, us', rfl, rv, v'⟩ := valsC v
    refine .cons ?_ (tups_of I r2 (fun c h => hc c (List.mem_cons_of_mem _ h)) v')
    unfold Rep at r1
    obtain ⟨a, xs, rfl, h1, h2⟩ := r1
    cases rv
    obtain ⟨its, rr, pl, hzz⟩ := I.tuple (SqT.of h1)
    have hx : xs = c.map V.int := by
      clear rr h1 hc hzz
      induction c generalizing xs with
      | nil => unfold RepL at h2; exact h2
      | cons z c ih =>
        rw [List.map_cons] at h2
        unfold RepL at h2
        obtain ⟨x, xs', rfl, h3, h4⟩ := h2
        cases (show x = V.int z from h3)
        rw [ih _ h4]; rfl
    subst hx
    exact ⟨a, its, rfl, pl, rr, hc c (List.mem_cons_self ..)⟩
theorem vals_ix {ys : List V} {us : List Value} (v : Vals ys us) : ∀ ix : List Nat, (∀ i ∈ ix, i < ys.length) → Vals (ix.map fun i => ys.getD i .non) (ix.map fun i => us.getD i Value.none)
  | [], _ => .nil
  | i :: ix, h => by
    have hi := h i (List.mem_cons_self ..)
    obtain ⟨u, hu, ru⟩ := v.get (i := i) (x := ys[i]) (by simp [hi])
    refine .cons ?_ (vals_ix v ix fun j hj => h j (List.mem_cons_of_mem _ hj))
    have e1 : ys.getD i .non = ys[i] := by simp [hi]
    have e2 : us.getD i Value.none = u := by rw [List.getD_eq_getElem?_getD, hu]; rfl
    show RelV (ys.getD i .non) (us.getD i Value.none)
    rw [e1, e2]; exact ru
theorem cl_srt {X : Cx} (K : PySem.W.Frag) (hK : X.K = K := by rfl) : CallR X (.builtin "sorted") (rSorted K) := by
  subst hK
  unfold rSorted
  intro pins s σ H xs us Q I r h
  obtain ⟨p, ys, cs, rfl, hq, rep, hc, hz, q⟩ := h
  obtain ⟨u, rfl, rx⟩ := vals1 r
  cases rx
  obtain ⟨its, r', pl, hz'⟩ := I.list hq
  have hlen := r'.length
  obtain ⟨o, n, ho, hcl, hdd, hd⟩ := pl
  refine sorted_tups ⟨o, ho, hcl, n, hd⟩ (tups_of I rep hc r') (by (first | lia | omega)) fun pm h' D c hg keep hD hget => ?_
  have hperm : pm.toList.Perm (List.range ys.length) := by
    have := (Array.perm_iff_toList_perm.mp hg)
    rw [hlen]; simpa using this
  have hlt : ∀ i ∈ pm.toList, i < ys.length := fun i hi => by
    have := hperm.mem_iff.mp hi
    simpa using this
  have hl2 : (pm.toList.map fun i => ys.getD i .non).length = ys.length := by rw [List.length_map, hperm.length_eq, List.length_range]
  refine ⟨.ref D, upd H D (.lst (pm.toList.map fun i => ys.getD i .non)), I.laid (t' := s.toks) keep hD ⟨by rw [hl2]; exact hz', _, c, vals_ix r' _ hlt, hget⟩, rfl, ?_⟩
  have hn := I.hok.fresh hD
  exact q D pm.toList _ hperm hn upd_same (Same.upd hn)
end L2
set_option Elab.async false
set_option linter.all false
set_option maxRecDepth 100000
/-! ### x in a list or tuple of tuples of ints -/
namespace L2
open PySem PySem.Spec PySem.W PyProof.Rows HT
abbrev cD (c : List Int) : PyData := .tuple (c.map .int)
theorem eqvI (x y : Int) : PyData.eqv (.int x) (.int y) = decide (x = y) := by
  show (x == y) = _
  rw [Bool.beq_eq_decide_eq]
theorem eqvIs : ∀ a b : List Int, PyData.eqvAll (a.map PyData.int) (b.map PyData.int) = decide (a = b)
  | [], [] => by simp [PyData.eqvAll]
  | [], _ :: _ => by simp [PyData.eqvAll]
  | _ :: _, [] => by simp [PyData.eqvAll]
  | x :: a, y :: b => by
    have ih := eqvIs a b
    rw [List.map_cons, List.map_cons]
    show (PyData.eqv (.int x) (.int y) && PyData.eqvAll _ _) = _
    rw [ih, eqvI]
    by_cases h : x = y <;> by_cases h' : a = b <;> simp [h, h']
theorem eqvC (a b : List Int) : PyData.eqv (cD a) (cD b) = decide (a = b) := eqvIs a b
theorem layIs : ∀ a : List Int, PyData.canLayAll0 (a.map PyData.int) = true
  | [] => rfl
  | x :: a => by
    show (PyData.canLay0 (.int x) && PyData.canLayAll0 (a.map PyData.int)) = true
    rw [layIs a]; rfl
theorem depIs : ∀ a : List Int, PyData.depthAll (a.map PyData.int) ≤ 1
  | [] => by show 0 ≤ 1; (first | lia | omega)
  | x :: a => by
    have := depIs a
    show max (PyData.depth (.int x)) (PyData.depthAll (a.map PyData.int)) ≤ 1
    have : PyData.depth (.int x) ≤ 1 := by simp [PyData.depth]
    (first | lia | omega)
theorem cD_rep {H : Hp} {c : List Int} {v : V} (h : Rep H (cD c) v) : ∃ a, v = .ref a ∧ H a = some (.tup (c.map V.int)) := by
  unfold Rep at h
  obtain ⟨a, xs, rfl, h1, h2⟩ := h
  have hx : xs = c.map V.int := by
    clear h1
    induction c generalizing xs with
    | nil => unfold RepL at h2; exact h2
    | cons z c ih =>
      rw [List.map_cons] at h2
      unfold RepL at h2
      obtain ⟨x, xs', rfl, h3, h4⟩ := h2
      cases (show x = V.int z from h3)
      rw [ih _ h4]; rfl
  subst hx
  exact ⟨a, rfl, h1⟩
theorem map_int_inj {a b : List Int} (h : a.map V.int = b.map V.int) : a = b := by
  induction a generalizing b with
  | nil => cases b with
    | nil => rfl
    | cons _ _ => cases h
  | cons x a ih => cases b with
    | nil => cases h
    | cons y b =>
      rw [List.map_cons, List.map_cons] at h
      injection h with h1 h2
      injection h1 with h1
      rw [h1, ih h2]
open Classical in
noncomputable def eqC (H : Hp) (c : List Int) (u : Value) : Bool := decide (∃ b, u = .ref b ∧ H b = some (.tup (c.map V.int)))
section
variable {X : Cx} {pins : List (Addr × Obj)} {σ : St} {H : Hp} {s : Shared}
theorem eqC_at {c c' : List Int} {y : V} {u : Value} (h : Rep H (cD c') y) (r : RelV y u) : eqC H c u = decide (c' = c) := by
  obtain ⟨a, rfl, ha⟩ := cD_rep h
  cases r
  unfold eqC
  rw [Bool.eq_iff_iff]
  simp only [decide_eq_true_eq]
  constructor
  · rintro ⟨b, e2, hb⟩
    cases e2
    rw [ha] at hb
    injection hb with hb
    injection hb with hb
    exact map_int_inj hb
  · rintro rfl
    exact ⟨a, rfl, ha⟩
theorem eqC_any {c : List Int} : ∀ {cs : List (List Int)} {ys : List V} {us : List Value}, RepL H (cs.map cD) ys → Vals ys us → us.any (eqC H c) = decide (c ∈ cs)
  | [], ys, us, r, v => by
    unfold RepL at r
    cases (show ys = [] from r)
    cases v
    rfl
  | c' :: cs, ys, us, r, v => by
    rw [List.map_cons] at r
    unfold RepL at r
    obtain ⟨y, ys', rfl, r1, r2⟩ := r
    obtain ⟨u, us', rfl, rv, v'⟩ := valsC v
    rw [List.any_cons, eqC_at r1 rv, eqC_any r2 v']
    by_cases h : c' = c
    · subst h; simp
    · have h' : ¬ c = c' := fun e => h e.symm
      simp [h, h']
theorem eqC_mem (I : Inv X pins σ H s) (hu : X.A.units + 64 < cLine) {c : List Int} {v : Value} {as : List Addr} (rc : Reads s.heap v (cD c) as) : ∀ {cs : List (List Int)} {ys : List V} {us : List Value}, RepL H (cs.map cD) ys → Vals ys us →
    ∀ u ∈ us, SeqAt.EqAt X.A.in1 s u v (eqC H c u)
  | [], ys, us, r, vv => by
    unfold RepL at r
    cases (show ys = [] from r)
    cases vv
    exact fun u hu => by cases hu
  | c' :: cs, ys, us, r, vv => by
    rw [List.map_cons] at r
    unfold RepL at r
    obtain ⟨y, ys', rfl, r1, r2⟩ := r
    obtain ⟨u, us', rfl, rv, v'⟩ := valsC vv
    intro u' hu'
    rcases List.mem_cons.mp hu' with rfl | hu'
    · obtain ⟨bs, rb⟩ := r1.reads I rv
      rw [eqC_at r1 rv, ← eqvC]
      refine SeqAt.eqAt_reads (cD c') (cD c) _ s _ _ bs as rb rc (layIs c') (layIs c) ?_
      have h1 : (cD c').depth ≤ 2 := by
        have := depIs c'
        simp only [PyData.depth]
        (first | lia | omega)
      have : X.A.in1.units ≤ X.A.units + 1 := by
        first
          | exact Nat.le_refl _
          | (unfold Around.in1; simp)
      (first | lia | omega)
    · exact eqC_mem I hu rc r2 v' u' hu'
end
/-- x in y, y a list or tuple of tuples of ints; neg: not in -/
@[irreducible] def rInT (K : PySem.W.Frag) (neg : Bool) : R2 := fun x y H Q => ∃ (p : Addr) (ys : List V) (cs : List (List Int)) (c : List Int), y = .ref p ∧ (SqL K H p ys ∨ SqT K H p ys) ∧ RepL H (cs.map cD) ys ∧ RepK K H (cD c) x ∧ Q (.bl (if neg then !decide (c ∈ cs) else decide (c ∈ cs))) H
theorem riT {K : PySem.W.Frag} {neg : Bool} {x : V} {p : Addr} {ys : List V} {cs : List (List Int)} {c : List Int} {H : Hp} {Q : VK} (h : SqL K H p ys ∨ SqT K H p ys) (r : RepL H (cs.map cD) ys) (rx : RepK K H (cD c) x) (q : Q (.bl (if neg then !decide (c ∈ cs) else decide (c ∈ cs))) H) : rInT K neg x (.ref p) H Q := by
  unfold rInT; exact ⟨p, ys, cs, c, rfl, h, r, rx, q⟩
section
variable {X : Cx}
theorem op_inT (K : PySem.W.Frag) (hu : X.A.units + 64 < cLine) (hK : X.K = K := by rfl) : OpR X (compareOp .In) (rInT K false) := by
  subst hK
  unfold rInT
  intro pins s σ H x y v u Q I rx ry h
  obtain ⟨p, ys, cs, c, rfl, hq, r, rc, q⟩ := h
  cases ry
  obtain ⟨as, ra⟩ := rc.reads I rx
  rcases hq with hq | hq
  · obtain ⟨its, r', pl, hz⟩ := I.list hq
    refine SeqAt.in_listAt (eqC H c) pl.isList (fun w hw => eqC_mem I hu ra r r' w (by simpa using hw)) ⟨.bl _, H, I, rfl, ?_⟩
    rw [show its.toArray.any (eqC H c) = its.any (eqC H c) by simp, eqC_any r r']
    exact q
  · obtain ⟨its, r', pl, hz⟩ := I.tuple hq
    refine SeqAt.in_tupleAt (eqC H c) pl (fun w hw => eqC_mem I hu ra r r' w (by simpa using hw)) ⟨.bl _, H, I, rfl, ?_⟩
    rw [show its.toArray.any (eqC H c) = its.any (eqC H c) by simp, eqC_any r r']
    exact q
theorem op_notinT (K : PySem.W.Frag) (hu : X.A.units + 64 < cLine) (hK : X.K = K := by rfl) : OpR X (compareOp .NotIn) (rInT K true) := by
  subst hK
  unfold rInT
  intro pins s σ H x y v u Q I rx ry h
  obtain ⟨p, ys, cs, c, rfl, hq, r, rc, q⟩ := h
  cases ry
  obtain ⟨as, ra⟩ := rc.reads I rx
  rcases hq with hq | hq
  · obtain ⟨its, r', pl, hz⟩ := I.list hq
    refine SeqAt.notIn_listAt (eqC H c) pl.isList (fun w hw => eqC_mem I hu ra r r' w (by simpa using hw)) ⟨.bl _, H, I, rfl, ?_⟩
    rw [show its.toArray.any (eqC H c) = its.any (eqC H c) by simp, eqC_any r r']
    exact q
  · obtain ⟨its, r', pl, hz⟩ := I.tuple hq
    refine SeqAt.notIn_tupleAt (eqC H c) pl (fun w hw => eqC_mem I hu ra r r' w (by simpa using hw)) ⟨.bl _, H, I, rfl, ?_⟩
    rw [show its.toArray.any (eqC H c) = its.any (eqC H c) by simp, eqC_any r r']
    exact q
end
end L2
set_option Elab.async false
set_option linter.all false
set_option maxRecDepth 100000
namespace L2
open PySem PySem.W PySem.Spec PySem.Calls PyProof.Rows
section
variable {X : Cx}
@[irreducible] def rAll : List V → Hp → VK → Prop := fun xs H Q => ∃ (p : Addr) (bs : List Bool), xs = [.ref p] ∧ H p = some (.lst (bs.map V.bl)) ∧ Q (.bl (bs.all id)) H
theorem rall {p : Addr} {bs : List Bool} {H : Hp} {Q : VK} (e : H p = some (.lst (bs.map V.bl))) (q : Q (.bl (bs.all id)) H) : rAll [.ref p] H Q := by unfold rAll; exact ⟨p, bs, rfl, e, q⟩
theorem bools_of {bs : List Bool} : ∀ {us : List Value}, Vals (bs.map V.bl) us → LSm.BoolsAre us bs := by
  induction bs with
  | nil => intro us r; cases r; exact .nil
  | cons b bs ih =>
    intro us r
    cases r with
    | cons r t => cases (show _ = Value.bool b from r); exact .cons b (ih t)
theorem cl_all (hc : X.calm = true) : CallR X (.builtin "all") rAll := by
  unfold rAll
  intro pins s σ H xs us Q I r h
  obtain ⟨p, bs, rfl, e, q⟩ := h
  obtain ⟨_, rfl, r1⟩ := vals1 r
  cases r1
  obtain ⟨z, its, n, rv, hl, eo⟩ := I.lstM e
  have hL : s.heap.IsList p its.toArray := ⟨_, eo, rfl, n, rfl⟩
  have hb := bools_of rv
  have hlt : p < s.heap.objs.size := Heap.lt_size eo
  refine call_all_walk (wpAny_pyIter_list hL ?_)
  refine ⟨s.heap.objs.size, [s.heap.objs.size, p], [s.heap.objs.size], its.toArray.size, _, _, fun i => (bs[i]?).getD true, rfl, Walks.list (A := X.A.in1) (I.ok.hd hc) _ p (Nat.ne_of_lt hlt) its.toArray,
    ⟨⟨_, Heap.get?_push_size _ rfl, rfl, rfl⟩, hL.push _⟩, fun i v s' Q' E' hP hQ => ?_, fun h' tk hk => ?_⟩
  · obtain ⟨b, e, rfl⟩ := hb.get i v (by simpa using hP)
    simp only [e, Option.getD_some] at hQ
    exact wpAny_truthy_bool hQ
  · have e : ((List.range its.toArray.size).all fun i => (bs[i]?).getD true) = bs.all id := by
      rw [List.size_toArray, hb.length]; exact LSm.range_all bs
    rw [e]
    exact ⟨.bl _, H, I.kept (LSm.kept_iter hk), rfl, q⟩
end
end L2
set_option Elab.async false
set_option linter.all false
set_option maxRecDepth 100000
namespace HT
open PySem PySem.Spec PyProof.Rows PySem.Builtin
section
variable {prog : Program} {w : World} {A : Around} {E : Value → Shared → Prop} {s : Shared}
end
end HT
set_option Elab.async false
set_option linter.all false
set_option maxRecDepth 100000
namespace HT
open PySem PySem.Spec PyProof.Rows PySem.Builtin
section
variable {prog : Program} {w : World} {A : Around} {E : Value → Shared → Prop} {s : Shared} {K : Type} [DecidableEq K] {knd : HeapKind prog w K}
end
end HT
set_option Elab.async false
set_option linter.all false
set_option maxRecDepth 100000
/-! ### dict(tuple of pairs), the keys tuples of ints and texts -/
namespace L2
open PySem PySem.Spec PySem.W PyProof.Rows HT
section
variable {X : Cx} {pins : List (Addr × Obj)} {σ : St} {H : Hp}
end
end L2
set_option Elab.async false
set_option linter.all false
set_option maxRecDepth 100000
/-! ### walking a dict's keys, whatever they are -/
namespace HT
open PySem PySem.Spec PyProof.Rows
section
variable {prog : Program} {w : World} {A : Around} {E : Value → Shared → Prop} {s : Shared} {it d : Addr} {es : Array DictEntry} {ep i : Nat} {od : Obj}
end
end HT
set_option Elab.async false
set_option linter.all false
set_option maxRecDepth 100000
/-! ### dict(pairs), frozen, and its keys walked -/
namespace L2
open PySem PySem.Spec PySem.W PyProof.Rows HT
section
variable {X : Cx} {pins : List (Addr × Obj)} {σ : St} {H : Hp} {s : Shared}
end
section
variable {X : Cx} {tg : Expr}
end
end L2
set_option Elab.async false
set_option linter.all false
set_option maxRecDepth 100000
/-! ### list(d) of a frozen dict -/
namespace HT
open PySem PySem.Spec PyProof.Rows PySem.W
section
variable {prog : Program} {w : World} {A : Around} {d : Addr} {o : Obj} {es : Array DictEntry} {ep : Nat}
end
end HT
namespace L2
open PySem PySem.Spec PySem.W PyProof.Rows HT
end L2
set_option Elab.async false
set_option linter.all false
set_option maxRecDepth 100000
/-! ### d.values() of a frozen dict, walked -/
namespace HT
open PySem PySem.Spec PyProof.Rows PySem.W
section
variable {prog : Program} {w : World} {A : Around} {E : Value → Shared → Prop} {s : Shared} {it d : Addr} {es : Array DictEntry} {ep i : Nat} {od : Obj}
end
end HT
set_option Elab.async false
set_option linter.all false
set_option maxRecDepth 100000
namespace L2
open PySem PySem.Spec PySem.W PyProof.Rows HT
section
variable {X : Cx} {tg : Expr}
end
section
variable {X : Cx} {o e : Expr} {apos cpos : Pos} {td ty : TE}
end
/-! max of a list of ints -/
end L2
namespace L2
open PySem PySem.Spec PySem.W PyProof.Rows HT
@[irreducible] def rMaxL (K : PySem.W.Frag) : List V → Hp → VK → Prop := fun xs H Q => ∃ (p : Addr) (ns : List Int), xs = [.ref p] ∧ SqL K H p (ns.map V.int) ∧ 0 < ns.length ∧ ∀ M, M ∈ ns → (∀ a, a ∈ ns → a ≤ M) → Q (.int M) H
theorem rmxl {K : PySem.W.Frag} {H : Hp} {Q : VK} {p : Addr} {ns : List Int} (h : SqL K H p (ns.map V.int)) (hn : 0 < ns.length) (q : ∀ M, M ∈ ns → (∀ a, a ∈ ns → a ≤ M) → Q (.int M) H) : rMaxL K [.ref p] H Q := by
  unfold rMaxL; exact ⟨p, ns, rfl, h, hn, q⟩
theorem cl_maxL {X : Cx} (K : PySem.W.Frag) (hc : X.calm = true) (hK : X.K = K := by rfl) : CallR X (.builtin "max") (rMaxL K) := by
  subst hK
  unfold rMaxL
  intro pins s σ H xs us Q I r h
  obtain ⟨p, ns, rfl, hq, hn, q⟩ := h
  obtain ⟨u, rfl, rx⟩ := vals1 r
  cases rx
  obtain ⟨its, r', pl, hz⟩ := I.list hq
  have hi := intsAre_of r'
  obtain ⟨zs, e⟩ := hi.allInts.items
  have hns : ns = zs.toList.map (·.1) := by rw [← hi.numsOf, ← nums_intItems, ← e]
  have hsz : 0 < zs.size := by rw [hns, List.length_map, Array.length_toList] at hn; exact hn
  rw [e] at pl
  refine max_intList (I.ok.hd hc) pl.isList hsz fun v h' tk hv hk => ?_
  obtain ⟨t, rfl⟩ := intItems_at hv
  obtain ⟨h1, h2⟩ := argBest_gt (numAt zs) (zs.size - 1)
  refine ⟨.int _, H, I.kept hk, ⟨t, rfl⟩, q _ ?_ fun a ha => ?_⟩
  · rw [hns, numAt_eq]; exact getD_mem (by rw [List.length_map, Array.length_toList]; (first | lia | omega))
  · rw [hns] at ha
    obtain ⟨j, hj, rfl⟩ := mem_getD ha
    rw [List.length_map, Array.length_toList] at hj
    rw [← numAt_eq]; exact h2 j (by (first | lia | omega))
end L2
namespace L2
open PySem
end L2
set_option Elab.async false
set_option linter.all false
set_option maxRecDepth 100000
namespace L2
open PySem
section
variable {js : List Nat} {te : TE} {tc : TT} {σ : St} {H : Hp} {Q : VK}
theorem comp_fltJ {J : It} {α : Type} {g : α → PyData} {as : List α} (p : α → Bool) (hz : as.length ≤ 100000)
    (hg : ∀ i H', Same H H' → i < as.length → J.go i H' ∧ ∀ x H3, J.yld i H' x H3 → H3 = H' ∧ ∃ c, as[i]? = some c ∧ Rep H (g c) x) (hst : ∀ H', Same H H' → J.stop as.length H')
    (ht : ∀ x c H' (Q' : Bool → Hp → Prop), c ∈ as → Rep H' (g c) x → Same H H' → (∀ H5, Same H' H5 → Q' (p c) H5) → tc (some x :: slots σ js) H' Q')
    (he : ∀ x H' (Q' : VK), Q' x H' → te (some x :: slots σ js) H' Q')
    (hd : ∀ D ys H', H D = none → H' D = some (.lst ys) → Same H H' → RepL H' ((as.filter p).map g) ys → Q (.ref D) H') : CompB J σ js tc te H Q := by
  unfold CompB
  intro D hD
  refine ⟨fun i m ys H' => m = as.length - i ∧ i ≤ as.length ∧ H' D = some (.lst ys) ∧ Same H H' ∧ RepL H (((as.take i).filter p).map g) ys ∧ ys.length ≤ i, ⟨as.length, by simp, Nat.zero_le _, upd_same, Same.upd hD, RepL.nil, Nat.le_refl _⟩, ?_⟩
  rintro i m ys H2 ⟨rfl, hi, hD2, s2, ry, hy⟩
  refine ⟨hD2, ?_⟩
  by_cases hlt : i < as.length
  · obtain ⟨hgo, hyl⟩ := hg i H2 s2 hlt
    refine .inr ⟨hgo, Nat.lt_of_le_of_lt (m := 100000) (by (first | lia | omega)) (by decide), fun x H3 hy3 => ?_⟩
    obtain ⟨rfl, c, hc, rc⟩ := hyl x H3 hy3
    have hti : as.take (i + 1) = as.take i ++ [c] := by rw [List.take_add_one, hc]; rfl
    refine ⟨fun b H4 => b = p c ∧ Same H3 H4, ht x c H3 _ (List.mem_of_getElem? hc) (rc.same s2) s2 fun H5 s5 => ⟨rfl, s5⟩, ?_⟩
    rintro b H4 ⟨rfl, s4⟩
    by_cases hp : p c = true
    · rw [if_pos hp]
      refine ⟨fun y H5 => y = x ∧ H5 = H4, he x H4 _ ⟨rfl, rfl⟩, ?_⟩
      rintro y H5 ⟨rfl, rfl⟩
      refine ⟨s4 _ _ hD2, _, ?_, rfl, hlt, upd_same, Same.thru hD (s2.trans s4) SameBut.self, ?_, ?_⟩
      · (first | lia | omega)
      · rw [hti, List.filter_append, List.map_append]
        have : List.filter p [c] = [c] := by simp [hp]
        rw [this]
        exact RepL.snoc ry rc
      · rw [List.length_append, List.length_singleton]; (first | lia | omega)
    · rw [if_neg hp]
      refine ⟨s4 _ _ hD2, _, ?_, rfl, hlt, s4 _ _ hD2, s2.trans s4, ?_, ?_⟩
      · (first | lia | omega)
      · rw [hti, List.filter_append]
        have : List.filter p [c] = [] := by simp [hp]
        rw [this, List.append_nil]
        exact ry
      · (first | lia | omega)
  · have e : i = as.length := by (first | lia | omega)
    subst e
    refine .inl ⟨hst H2 s2, hd D ys H2 hD hD2 s2 ?_⟩
    rw [List.take_length] at ry
    exact ry.same s2
end
end L2
set_option Elab.async false
set_option linter.all false
set_option maxRecDepth 100000
namespace L2
open PySem PySem.Spec PyProof.Rows
section
variable {X : Cx} {pins : List (Addr × Obj)} {σ : St} {H : Hp} {s : Shared} {scope : Scope} {x x2 : Str} {N' : List Str} {js : List Nat} {fp : List Addr}
end
section
variable {X : Cx} {pins : List (Addr × Obj)} {σ : St} {H : Hp} {s : Shared} {scope : Scope} {x : Str} {N' : List Str} {js : List Nat} {fp : List Addr} {elt iter : Expr} {px pos : Pos} {tg : Expr} {x2 : Str} {te : TE}
end
section
variable {X : Cx} {scope : Scope} {x x2 y : Str} {N' : List Str} {js : List Nat} {elt iter tg : Expr} {py pos spos : Pos} {te : TE} {wi : TI} {i : Nat}
end
end L2
set_option Elab.async false
set_option linter.all false
set_option maxRecDepth 100000
namespace HT
open PySem PySem.Spec PyProof.Rows
/-! ### how many keys a dict has, whatever they are -/
section
variable {prog : Program} {w : World} {A : Around} {E : Value → Shared → Prop} {s : Shared} {d : Addr} {o : Obj} {es : Array DictEntry} {ep : Nat}
end
end HT
namespace L2
open PySem PySem.Spec PySem.W PyProof.Rows HT
section
variable {X : Cx} {o e f k v : Expr} {apos cpos pos : Pos} {td ty tx tk tv : TE}
end
end L2
set_option Elab.async false
set_option linter.all false
set_option maxRecDepth 100000
namespace L2
open PySem PySem.Spec PyProof.Rows
/-! ### comprehensions whose target is a tuple of names -/
structure CScopeN (X : Cx) (scope : Scope) (xs : List Str) (N' : List Str) (js : List Nat) : Prop where
  calm : X.calm = true
  free : ∀ y ∈ scope.names, y.2 = .free → X.env.kindOf y.1 = some .cell
  cell : ∀ y ∈ scope.names, y.2 ≠ .cell
  kind : scope.kind = .function
  names : ∀ y ∈ scope.names, y.2 = .local → scope.names.lookup y.1 = some .local
  own : ∀ x ∈ xs, scope.names.lookup x = some .local
  nofl : ∀ y, (y, NameKind.free) ∈ scope.names → scope.names.lookup y = some .local → False
  len : N'.length = xs.length + js.length
  pre : ∀ (i : Nat) x, xs[i]? = some x → N'[i]? = some x
  nd : N'.Nodup
  slot : ∀ (i : Nat) (j : Nat), js[i]? = some j → ∃ y, N'[xs.length + i]? = some y ∧ X.N[j]? = some y ∧ (y, NameKind.free) ∈ scope.names
/-- a tuple into names -/
def gNames : Nat → Nat → TGs
  | _, 0 => gNil
  | i, n + 1 => gCons (gName i) (gNames (i + 1) n)
def gN (K : PySem.W.Frag) (n : Nat) : TG := gTup K n (gNames 0 n)
theorem gNames_run {H : Hp} {r : St} {Q : St → Hp → Prop} : ∀ (vs : List V) (pre os : St), os.length = vs.length → Q (pre ++ (vs.map some ++ r)) H → gNames pre.length vs.length vs (pre ++ (os ++ r)) H Q
  | [], pre, [], _, q => ⟨rfl, q⟩
  | v :: vs, pre, o :: os, hl, q => by
    refine ⟨v, vs, rfl, ?_⟩
    show gNames (pre.length + 1) vs.length vs ((pre ++ (o :: os ++ r)).set pre.length (some v)) H Q
    have e1 : (pre ++ (o :: os ++ r)).set pre.length (some v) = (pre ++ [some v]) ++ (os ++ r) := by
      rw [List.set_append_right _ _ (Nat.le_refl _), Nat.sub_self, List.append_assoc]; rfl
    have e2 : pre.length + 1 = (pre ++ [some v]).length := by rw [List.length_append]; rfl
    rw [e1, e2]
    refine gNames_run vs (pre ++ [some v]) os (by simpa using hl) ?_
    rw [List.append_assoc]; exact q
/-- a comprehension's turns, each item taken apart -/
@[irreducible] def CompN (K : PySem.W.Frag) (n : Nat) (J : It) (σ : St) (js : List Nat) (tc : TT) (te : TE) (H1 : Hp) (Q : VK) : Prop := ∀ D, H1 D = none → ∃ W : Nat → Nat → List V → Hp → Prop, (∃ m, W 0 m [] (upd H1 D (.lst []))) ∧
  ∀ i m ys H2, W i m ys H2 → H2 D = some (.lst ys) ∧ ((J.stop i H2 ∧ Q (.ref D) H2) ∨ (J.go i H2 ∧ ys.length < sizeLine ∧ ∀ x H3, J.yld i H2 x H3 → ∃ a vs, x = .ref a ∧ SqT K H3 a vs ∧ vs.length = n ∧
    tMono tc (vs.map some ++ slots σ js) H3 fun b H4 => if b = true then tMonoE te (vs.map some ++ slots σ js) H4 fun y H5 => H5 D = some (.lst ys) ∧ ∃ m', m' < m ∧ W (i + 1) m' (ys ++ [y]) (upd H5 D (.lst (ys ++ [y])))
      else H4 D = some (.lst ys) ∧ ∃ m', m' < m ∧ W (i + 1) m' ys H4))
def tCompN (K : PySem.W.Frag) (n : Nat) (wi : TI) (js : List Nat) (tc : TT) (te : TE) : TE := fun σ H Q => wi σ H fun J H1 => CompN K n J σ js tc te H1 Q
section
variable {X : Cx} {pins : List (Addr × Obj)} {σ : St} {H : Hp} {s : Shared} {scope : Scope} {xs : List Str} {N' : List Str} {js : List Nat} {fp : List Addr}
theorem CScopeN.cells (S : CScopeN X scope xs N' js) (ok : X.Ok) : ∀ y ∈ scope.names, y.2 = .free → ∃ c, X.env.cells.lookup y.1 = some c := fun y hy hf => ok.has _ (.inl (S.free y hy hf))
theorem cxC_okN (S : CScopeN X scope xs N' js) (I : Inv X pins σ H s) (hf : ∀ b ∈ fp, FpOk X pins H b) (hb : ∀ b ∈ fp, b < s.heap.objs.size) : (cxC X scope s.heap.objs.size fp s H N').Ok where
  mod := I.ok.mod
  kind := S.kind
  glob := I.ok.glob
  blt := I.ok.blt
  above := Nat.le_refl _
  inj := fun y z c h1 h2 => I.ok.inj y z c (clOf_env (S.cells I.ok) h1) (clOf_env (S.cells I.ok) h2)
  has := fun y hy => by
    have hm : (y, NameKind.free) ∈ scope.names := by
      rcases hy with hy | hy
      · exact relabel_cases (env := X.env) hy (.inl rfl) S.cell
      · exact relabel_cases (env := X.env) hy (.inr rfl) S.cell
    obtain ⟨c, hc⟩ := S.cells I.ok _ hm rfl
    exact ⟨c, clOf_has (S.cells I.ok) hm hc⟩
  cab := fun _ _ h => by cases h
  hd := fun _ => I.ok.hd S.calm
  frames := I.ok.frames
  stk := .inl rfl
  exf := fun b hb' => ⟨fun e => by have := hb b hb'; rw [e] at this; exact Nat.lt_irrefl _ this, fun y c h => (hf b hb').2.2.2.2.1 y c (clOf_env (S.cells I.ok) h)⟩
  bs := I.bs
  bsz := Nat.le_trans I.ok.bsz I.sz
  noex := fun b o e hb' => by
    rcases (hf b hb').2.2.2.1 with h | h
    · exact I.ok.noex b o e h
    · exact absurd (Nat.lt_of_lt_of_le (Heap.lt_size e) (Nat.le_trans I.ok.bsz h)) (Nat.lt_irrefl _)
  exfs := fun b hb' hs => by
    have h2 := I.stkSub b hs
    rcases List.mem_cons.mp h2 with h2 | h2
    · exact (hf b hb').2.1 h2
    · exact (hf b hb').2.2.1 h2
  funs := I.stack
  frf := I.stkFree
/-- the block begins -/
theorem cxC_invN {h' : Heap} {tk : Nat} (S : CScopeN X scope xs N' js) (I : Inv X pins σ H s) (hf : ∀ b ∈ fp, FpOk X pins H b) (hb : ∀ b ∈ fp, b < s.heap.objs.size)
    (hn : h'.Ns s.heap.objs.size (fun _ => none)) (hk : ∀ b o, s.heap.get? b = some o → h'.get? b = some o) : Inv (cxC X scope s.heap.objs.size fp s H N') [] (List.replicate xs.length none ++ slots σ js) H { s with heap := h', toks := tk } where
  ok := cxC_okN S I hf hb
  os := rfl
  bare := I.bare
  base := Un.kept hk
  loc := by
    refine ⟨_, hn, fun i y v hi hv hvis => ?_⟩
    by_cases hlt0 : i < xs.length
    · rw [List.getElem?_append_left (by rw [List.length_replicate]; exact hlt0), List.getElem?_replicate, if_pos hlt0] at hv
      cases hv
    · obtain ⟨i, rfl⟩ : ∃ k, i = xs.length + k := ⟨i - xs.length, by (first | lia | omega)⟩
      rw [List.getElem?_append_right (by rw [List.length_replicate]; (first | lia | omega)), List.length_replicate, Nat.add_sub_cancel_left] at hv
      have hv' : (slots σ js)[i]? = some (some v) := hv
      have hlt : i < js.length := by
        have := (List.getElem?_eq_some_iff.mp hv').1
        unfold slots at this
        rwa [List.length_map] at this
      have hj : js[i]? = some js[i] := List.getElem?_eq_getElem hlt
      obtain ⟨z, h1, h2, h3⟩ := S.slot i _ hj
      have hzy : z = y := by
        have : N'[xs.length + i]? = some y := hi
        rw [h1] at this; cases this; rfl
      subst hzy
      rw [slots_get hj] at hv'
      have hσ : σ[js[i]]? = some (some v) := by
        cases q : σ[js[i]]? with
        | none => rw [q] at hv'; cases hv'
        | some o => rw [q] at hv'; cases hv'; rfl
      have hkc : X.env.kindOf z = some .cell := S.free _ h3 rfl
      obtain ⟨m, hm, hl⟩ := I.loc
      obtain ⟨u, ru, lk⟩ := hl _ z v h2 hσ (.inr (.inl hkc))
      rcases lk with ⟨hk1, _⟩ | ⟨_, c, hc, hcell⟩
      · rw [hkc] at hk1; cases hk1
      · refine ⟨u, ru, .inr ⟨?_, c, clOf_has (S.cells I.ok) h3 hc, ?_⟩⟩
        · rcases hvis with hvis | hvis | hvis
          · exfalso
            have hcl := clOf_has (S.cells I.ok) h3 hc
            -- a name that is free in the scope is not local there
            have hm2 := lookup_mem (l := (relabel scope X.env).names) hvis
            unfold relabel at hm2
            obtain ⟨⟨n, k⟩, hmem, he⟩ := List.mem_map.mp hm2
            dsimp only at he
            by_cases hq : (k == NameKind.free && X.env.scope.kind == .function && X.env.kindOf n == some .cell) = true
            · rw [if_pos hq] at he; cases he
            · rw [if_neg hq] at he
              cases he
              have := S.names _ hmem rfl
              have l2 := mem_lookup h3
              obtain ⟨c', l2⟩ := l2
              dsimp only at this
              rw [this] at l2
              have key : (relabel scope X.env).names.lookup z = some .local := lookup_relabel_local this
              have hck : scope.names.lookup z = some .local := this
              exact S.nofl z h3 hck
          · exact .inl hvis
          · exact .inr hvis
        · obtain ⟨o, e, r⟩ := hcell
          exact ⟨o, hk _ _ e, r⟩
  cell := fun y c h => by
    obtain ⟨v, o, e, r⟩ := I.cell y c (clOf_env (S.cells I.ok) h)
    exact ⟨v, o, hk _ _ e, r⟩
  free := I.hok.fresh (Nat.le_refl _)
  freeC := fun y c h => I.freeC y c (clOf_env (S.cells I.ok) h)
  pin := fun p hp => by cases hp
  hok := I.hok.kept hk
  len := by
    rw [List.length_append, List.length_replicate]
    unfold slots
    rw [List.length_map]; exact S.len.symm
/-- the block's end, for the def around it -/
theorem cxC_backN {H2 : Hp} {σ' : St} {s2 : Shared} {h'' : Heap} (S : CScopeN X scope xs N' js) (I : Inv X pins σ H s) (hf : ∀ b ∈ fp, FpOk X pins H b)
    (J : Inv (cxC X scope s.heap.objs.size fp s H N') [] σ' H2 s2) (hs : Heap.SameBut s.heap.objs.size s2.heap h'') : Inv X pins σ H2 { s2 with heap := h'' } := by
  have hC : H2 s.heap.objs.size = none := J.free
  have ne : ∀ {b : Addr} {o : Obj}, s.heap.get? b = some o → b ≠ s.heap.objs.size := fun e q => by
    have := Heap.lt_size e; rw [q] at this; exact Nat.lt_irrefl _ this
  refine I.call' (s' := { s2 with heap := h'' }) (ch := fp) (by rw [show ({ s2 with heap := h'' } : Shared).os = s2.os from rfl]; exact J.os) ?_ (J.hok.but hC fun b u hb q => hs.extBut b u hb q) J.bare fun b hb => ⟨(hf b hb).2.2.2.1, (hf b hb).2.1, (hf b hb).2.2.2.2.1, (hf b hb).2.2.2.2.2⟩
  have U := J.base
  exact {
    keep := fun b o e n h1 h2 => hs.extBut b o (ne e) (U.keep b o e n h1 h2)
    slot := fun b o e n h1 h2 => by
      obtain ⟨sl, q⟩ := U.slot b o e n h1 h2
      exact ⟨sl, hs.extBut b _ (ne e) q⟩
    free := U.free
    there := fun b o e h2 => by
      obtain ⟨o', q⟩ := U.there b o e h2
      exact ⟨o', hs.extBut b _ (ne e) q⟩
    tups := U.tups
    frzs := U.frzs
    tbls := U.tbls }
end
section
variable {X : Cx} {pins : List (Addr × Obj)} {σ : St} {H : Hp} {s : Shared} {scope : Scope} {xs : List Str} {N' : List Str} {js : List Nat} {fp : List Addr} {elt iter : Expr} {px pos : Pos} {tg : Expr} {ifs : List Expr} {tc : TT} {te : TE}
theorem comp_blockN {J : It} {it : Addr} {tn : Nat → Heap → Prop} {RR : Value → Addr → Result → Shared → Prop} {E : Value → Shared → Prop} {Q : VK}
    (S : CScopeN X scope xs N' js) (I : Inv X pins σ H s) (T : Turn X.prog X.w X.K tg J fp it tn) (h0 : tn 0 s.heap) (hf : ∀ b ∈ fp, FpOk X pins H b)
    (hg : ∀ C fp s₀ H₀, PG (cxC X scope C fp s₀ H₀ N') tg (gN X.K xs.length)) (ht : ∀ C fp s₀ H₀, PTs (cxC X scope C fp s₀ H₀ N') ifs tc) (he : ∀ C fp s₀ H₀, PE (cxC X scope C fp s₀ H₀ N') elt te)
    (R : ∀ D, H D = none → ∃ W : Nat → Nat → List V → Hp → Prop, (∃ m, W 0 m [] (upd H D (.lst []))) ∧
      ∀ i m ys H2, W i m ys H2 → H2 D = some (.lst ys) ∧ ((J.stop i H2 ∧ Q (.ref D) H2) ∨ (J.go i H2 ∧ ys.length < sizeLine ∧ ∀ x H3, J.yld i H2 x H3 → ∃ a vs, x = .ref a ∧ SqT X.K H3 a vs ∧ vs.length = xs.length ∧
        tc (vs.map some ++ slots σ js) H3 fun b H4 => if b = true then te (vs.map some ++ slots σ js) H4 fun y H5 => H5 D = some (.lst ys) ∧ ∃ m', m' < m ∧ W (i + 1) m' (ys ++ [y]) (upd H5 D (.lst (ys ++ [y])))
          else H4 D = some (.lst ys) ∧ ∃ m', m' < m ∧ W (i + 1) m' ys H4)))
    (hRR : ∀ (D : Addr) (H3 : Hp) (s3 : Shared) (σ' : St) (H' : Hp) (s' : Shared), Inv X pins σ H3 s3 → (∀ b ∈ fp, FpOk X pins H3 b) → Inv (cxC X scope s3.heap.objs.size fp s3 H3 N') [] σ' H' s' → Q (.ref D) H' → RR (.ref D) s3.heap.objs.size (.ok .next) s') :
    wpAny (model X.prog X.w) X.A (newList []) (fun acc s₃ => wpAny (model X.prog X.w) X.A (newFunctionEnv scope X.env.globals (clOf X scope) [] X.env.qual none .none (some X.env)) (fun cenv s₄ =>
      codeAny (model X.prog X.w) X.A (.compStart (.ListComp elt [⟨tg, iter, ifs, 0⟩] scope pos) 0 (.ref it) acc { cenv with scope := relabel scope X.env }) (RR acc cenv.locals) s₄) E s₃) E s := by
  have hb : ∀ b ∈ fp, b < s.heap.objs.size := fun b hb => by
    obtain ⟨o, e, _⟩ := T.obj 0 _ h0 b hb
    exact Heap.lt_size e
  refine wpAny_newObj_type (wpAny_newFunctionEnv S.cell (by intro y hy; simp at hy) (fun h₁ hns₁ hsb₁ => ?_) S.kind)
  have hDn : H s.heap.objs.size = none := I.hok.fresh (Nat.le_refl _)
  obtain ⟨W, ⟨m0, hw0⟩, hW⟩ := R _ hDn
  have I3 : Inv X pins σ (upd H s.heap.objs.size (.lst [])) { s with heap := s.heap.push { cls := .type "list", dict := none, data := .seq ([] : List Value).toArray } } := I.lnew (its := []) (ys := []) (t' := s.toks) .nil (Nat.zero_le _)
  have hf3 : ∀ b ∈ fp, FpOk X pins (upd H s.heap.objs.size (.lst [])) b := fun b hb' =>
    ⟨by rw [upd_ne (fun e => by have := hb b hb'; rw [e] at this; exact Nat.lt_irrefl _ this)]; exact (hf b hb').1, (hf b hb').2⟩
  have hb3 : ∀ b ∈ fp, b < (s.heap.push { cls := .type "list", dict := none, data := .seq ([] : List Value).toArray }).objs.size := fun b hb' => by
    rw [Heap.size_push]; exact Nat.lt_succ_of_lt (hb b hb')
  have hkeep : ∀ b o, (s.heap.push { cls := .type "list", dict := none, data := .seq ([] : List Value).toArray }).get? b = some o → h₁.get? b = some o := fun b o e =>
    hsb₁.extBut b o (fun q => by have := Heap.lt_size e; rw [q] at this; exact Nat.lt_irrefl _ this) (Heap.get?_push_of_some _ e)
  have J4 := cxC_invN (h' := h₁) (tk := s.toks + ([] : List (Str × Value)).length) S I3 hf3 hb3 hns₁ hkeep
  have t4 : tn 0 h₁ := T.keep 0 _ _ h0 fun b hb' o e => hkeep b o (Heap.get?_push_of_some _ e)
  have loop : codeAny (model X.prog X.w) X.A (.compLoop (.ListComp elt [⟨tg, iter, ifs, 0⟩] scope pos) 0 (.ref it) (.ref s.heap.objs.size) (compEnvC scope (clOf X scope) (s.heap.push { cls := .type "list", dict := none, data := .seq ([] : List Value).toArray }).objs.size X.env))
      (RR (.ref s.heap.objs.size) (s.heap.push { cls := .type "list", dict := none, data := .seq ([] : List Value).toArray }).objs.size) { s with heap := h₁, toks := s.toks + ([] : List (Str × Value)).length } := by
    refine compLoop_gen (fun n s' => ∃ (i : Nat) (ys : List V) (H2 : Hp) (os : St), os.length = xs.length ∧ Inv (cxC X scope _ fp _ _ N') [] (os ++ slots σ js) H2 s' ∧ tn i s'.heap ∧ (∀ b ∈ fp, H2 b = none) ∧ W i n ys H2) ?_ m0 ⟨0, [], _, _, List.length_replicate, J4, t4, fun b hb' => (hf3 b hb').1, hw0⟩
    rintro n s' ⟨i, ys, H2, os, hos, J2, t2, f2, w2⟩
    obtain ⟨hD, hcase⟩ := hW i n ys H2 w2
    have Fp : ∀ b ∈ fp, FpOk (cxC X scope (s.heap.push { cls := .type "list", dict := none, data := .seq ([] : List Value).toArray }).objs.size fp { s with heap := s.heap.push { cls := .type "list", dict := none, data := .seq ([] : List Value).toArray } } (upd H s.heap.objs.size (.lst [])) N') [] H2 b := fun b hb' =>
      ⟨f2 b hb', (J2.ok.exf b hb').1, J2.ok.exfs b hb', .inl hb', (J2.ok.exf b hb').2, fun p hp => by cases hp⟩
    rcases hcase with ⟨hstop, hq⟩ | ⟨hgo, hz, hturn⟩
    · refine wpAny_mono (T.done (cxC X scope _ fp _ _ N') rfl rfl rfl rfl i [] s' _ H2 NoX J2 Fp t2 hstop) (fun r s1 ⟨hr, J5⟩ => ?_) fun _ _ f => f
      subst hr
      exact hRR _ _ _ _ _ _ I3 hf3 J5 hq
    · refine wpAny_mono (T.item (cxC X scope _ fp _ _ N') rfl rfl rfl rfl i [] s' _ H2 NoX J2 Fp t2 hgo) (fun r s1 ⟨u, hr, hx⟩ => ?_) fun _ _ f => f
      subst hr
      refine wpAny_mono hx (fun _ s2 ⟨v, H3, J3, rv, hy, t3, f3⟩ => ?_) fun _ _ f => f
      have Fp3 : ∀ b ∈ fp, FpOk (cxC X scope (s.heap.push { cls := .type "list", dict := none, data := .seq ([] : List Value).toArray }).objs.size fp { s with heap := s.heap.push { cls := .type "list", dict := none, data := .seq ([] : List Value).toArray } } (upd H s.heap.objs.size (.lst [])) N') [] H3 b := fun b hb' =>
        ⟨f3 b hb', (J3.ok.exf b hb').1, J3.ok.exfs b hb', .inl hb', (J3.ok.exf b hb').2, fun p hp => by cases hp⟩
      have P3 := J3.pinned Fp3 (T.obj (i + 1) _ t3)
      have keepT : ∀ {σ' : St} {Hx : Hp} {sx : Shared}, Inv (cxC X scope (s.heap.push { cls := .type "list", dict := none, data := .seq ([] : List Value).toArray }).objs.size fp { s with heap := s.heap.push { cls := .type "list", dict := none, data := .seq ([] : List Value).toArray } } (upd H s.heap.objs.size (.lst [])) N') ([] ++ pinsAt fp s2.heap) σ' Hx sx → tn (i + 1) sx.heap ∧ ∀ b ∈ fp, Hx b = none := fun Jx =>
        ⟨T.keep (i + 1) _ _ t3 fun b hb' ob e => (Jx.pin (b, ob) (List.mem_append_right _ (List.mem_append_right _ (mem_pinsAt hb' e)))).1, fun b hb' => by
          obtain ⟨ob, e, _⟩ := T.obj (i + 1) _ t3 b hb'
          exact (Jx.pin (b, ob) (List.mem_append_right _ (List.mem_append_right _ (mem_pinsAt hb' e)))).2.1⟩
      obtain ⟨a, vs, ev, hq, hl, qe⟩ := hturn v H3 hy
      subst ev
      refine wpAny_mono (hg _ _ _ _ _ _ (os ++ slots σ js) H3 (.ref a) u (fun σ' H' => σ' = vs.map some ++ slots σ js ∧ H' = H3) P3 rv ⟨a, vs, rfl, hq, hl, ?_⟩) (fun _ s5 ⟨σ5, H5, J5, e5, e6⟩ => ?_) fun _ _ f => f
      · have := gNames_run (H := H3) (r := slots σ js) (Q := fun σ' H' => σ' = vs.map some ++ slots σ js ∧ H' = H3) vs [] os (by rw [hos, hl]) ⟨rfl, rfl⟩
        rw [hl] at this
        exact this
      subst e5 e6
      refine wpAny_mono (ht _ _ _ _ _ _ _ _ _ J5 qe) (fun ok s6 ⟨H6, J6, q6⟩ => ?_) fun _ _ f => f
      dsimp only at q6
      by_cases hok : ok = true
      · rw [if_pos hok] at q6 ⊢
        refine wpAny_mono (he _ _ _ _ _ _ _ _ _ J6 q6) (fun y s7 ⟨w', H7, J7, r7, hD7, m', hm', w7⟩ => ?_) fun _ _ f => f
        refine wpAny_mono (mt_append (X := cxC X scope _ fp _ _ N') _ _ _ _ (.ref s.heap.objs.size) [w'] (.ref s.heap.objs.size) [y] (fun _ H8 => H8 = upd H7 s.heap.objs.size (.lst (ys ++ [w']))) J7 rfl (.cons r7 .nil) ⟨_, _, _, rfl, rfl, hD7, hz, rfl⟩) (fun _ s8 ⟨_, H8, J8, _, e8⟩ => ?_) fun _ _ f => f
        subst e8
        obtain ⟨k1, k2⟩ := keepT J8
        exact ⟨m', hm', i + 1, ys ++ [w'], _, vs.map some, by rw [List.length_map, hl], J8.unpinned, k1, k2, w7⟩
      · rw [if_neg hok] at q6 ⊢
        obtain ⟨_, m', hm', w7⟩ := q6
        obtain ⟨k1, k2⟩ := keepT J6
        exact ⟨m', hm', i + 1, ys, _, vs.map some, by rw [List.length_map, hl], J6.unpinned, k1, k2, w7⟩
  refine codeAny_compStart_list loop (T.self X.A 0 _ _ _ t4 loop)
/-- [elt for x in iter if ..] as a value -/
theorem pe_compN {wi : TI} (S : CScopeN X scope xs N' js) (hi : PI X tg iter wi) (hg : ∀ C fp s₀ H₀, PG (cxC X scope C fp s₀ H₀ N') tg (gN X.K xs.length)) (ht : ∀ C fp s₀ H₀, PTs (cxC X scope C fp s₀ H₀ N') ifs tc) (he : ∀ C fp s₀ H₀, PE (cxC X scope C fp s₀ H₀ N') elt te)
    (hs : ∀ x, foldedSetIterable iter X.env x = pure x := by intro _; rfl) : PE X (.ListComp elt [⟨tg, iter, ifs, 0⟩] scope pos) (tCompN X.K xs.length wi js tc te) := by
  intro pins s σ H Q I h
  rw [eval_ListComp]
  refine wpAny_comprehension_free (use := none) rfl hs (closureFor_eq (S.cells I.ok)) S.kind S.names (wpAny_mono (hi pins s σ H _ I h) (fun v s1 h1 => ?_) fun _ _ e => e)
  refine wpAny_mono h1 (fun itv s2 ⟨it, fp, tn, J, H2, e, I2, T, t0, hf, R⟩ => ?_) fun _ _ e => e
  subst e
  refine comp_blockN (te := tMonoE te) (tc := tMono tc) S I2 T t0 hf hg (fun C fp s₀ H₀ => (ht C fp s₀ H₀).mono) (fun C fp s₀ H₀ => (he C fp s₀ H₀).mono) (by unfold CompN at R; exact R) ?_
  intro D H3 s3 σ' H' s' I3 hf3 J3 q
  obtain ⟨m, hm, _⟩ := J3.loc
  exact ⟨m, hm, fun h' hs' => ⟨.ref D, H', cxC_backN S I3 hf3 J3 hs', rfl, q⟩⟩
/-- name = [elt for x in iter if ..], where the name is stored ahead of the variables' going -/
theorem ps_setCompN {wi : TI} {y : Str} {py spos : Pos} {i : Nat} (S : CScopeN X scope xs N' js) (hN : X.N.Nodup) (hiN : X.N[i]? = some y) (hy : X.env.kindOf y = some .local) (hi : PI X tg iter wi) (hg : ∀ C fp s₀ H₀, PG (cxC X scope C fp s₀ H₀ N') tg (gN X.K xs.length)) (ht : ∀ C fp s₀ H₀, PTs (cxC X scope C fp s₀ H₀ N') ifs tc) (he : ∀ C fp s₀ H₀, PE (cxC X scope C fp s₀ H₀ N') elt te)
    (hsw : swapsWith (.ListComp elt [⟨tg, iter, ifs, 0⟩] scope pos) (some (.Name y py)) spos.line X.env = pure true) (hs : ∀ x, foldedSetIterable iter X.env x = pure x := by intro _; rfl) :
    PS X (.Assign [.Name y py] (.ListComp elt [⟨tg, iter, ifs, 0⟩] scope pos) spos) (tAsg (tCompN X.K xs.length wi js tc te) (gName i)) := by
  intro pins s σ H D0 I h
  rw [exec_Assign_Name_used _ _ _ _ hsw]
  refine wpAny_bind (wpAny_standAt (wpAny_bind ?_))
  show wpAny _ X.A (do let _ ← comprehension (.ListComp elt [⟨tg, iter, ifs, 0⟩] scope pos) scope X.env _ (newList []) false (eval iter X.env) (some (assign (.Name y py) X.env))) _ _ s
  refine wpAny_bind (wpAny_mono (wpAny_comprehension_free (use := some (assign (.Name y py) X.env)) (Q := fun _ s' => SP X pins D0 .next s') rfl hs (closureFor_eq (S.cells I.ok)) S.kind S.names (wpAny_mono (hi pins s σ H _ I h) (fun v s1 h1 => ?_) fun _ _ e => e)) (fun _ s' hq => wpAny_pure (wpAny_pure hq)) fun _ _ e => e)
  refine wpAny_mono h1 (fun itv s2 ⟨it, fp, tn, J, H2, e, I2, T, t0, hf, R⟩ => ?_) fun _ _ e => e
  subst e
  refine comp_blockN (te := tMonoE te) (tc := tMono tc) (Q := fun v H' => gName i v σ H' D0.nx) S I2 T t0 hf hg (fun C fp s₀ H₀ => (ht C fp s₀ H₀).mono) (fun C fp s₀ H₀ => (he C fp s₀ H₀).mono) (by unfold CompN at R; exact R) ?_
  intro D H3 s3 σ' H' s' I3 hf3 J3 q
  obtain ⟨m, hm, _⟩ := J3.loc
  have IX : Inv X pins σ H' s' := cxC_backN S I3 hf3 J3 (Heap.SameBut.refl ..)
  have hCL : s3.heap.objs.size ≠ X.env.locals := fun e => by have := I3.lt; rw [e] at this; exact Nat.lt_irrefl _ this
  show wpAny _ X.A (assign (.Name y py) X.env (.ref D)) _ _ _
  refine wpAny_assign_Name (store_ok2 IX hN hiN (.inl hy) (v := .ref D) rfl (fun s5 I5 hsb => ?_) (.inr hy))
  obtain ⟨a, hsb, ha⟩ := hsb
  have hCa : s3.heap.objs.size ≠ a := by
    rcases ha with rfl | ha
    · exact hCL
    · intro e
      obtain ⟨v, o, eo, _⟩ := I3.cell y a ha
      have := Heap.lt_size eo
      rw [← e] at this
      exact Nat.lt_irrefl _ this
  refine ⟨m, hm.sameBut hsb hCa, fun h' hs' => ⟨_, H', ?_, q⟩⟩
  exact I5.turned (it := s3.heap.objs.size) (t' := s5.toks) (fun b o n e => hs'.extBut b o n e) J3.free hCL (.inr I3.sz)
    (fun z c hz e => by
      obtain ⟨v, o, eo, _⟩ := I3.cell z c hz
      have := Heap.lt_size eo
      rw [e] at this
      exact Nat.lt_irrefl _ this)
    (fun p hp e => by
      have := Heap.lt_size (I3.pin p hp).1
      rw [e] at this
      exact Nat.lt_irrefl _ this)
end
section
variable {X : Cx} {scope : Scope} {x1 x2 x3 y : Str} {N' : List Str} {js : List Nat} {elt iter tg : Expr} {ifs : List Expr} {py pos spos : Pos} {tc : TT} {te : TE} {wi : TI} {i : Nat}
theorem wg_nm {xs : List Str} {k : Nat} {x : Str} {p : Pos} (S : CScopeN X scope xs N' js) (h : xs[k]? = some x) (C : Addr) (fp : List Addr) (s₀ : Shared) (H₀ : Hp) : PGw (cxC X scope C fp s₀ H₀ N') (.Name x p) (gName k) :=
  have l := S.own x (List.mem_of_getElem? h)
  wg_name S.nd (S.pre k x h) (.inl (lookup_relabel_local l)) (.inr (lookup_relabel_local l))
theorem wg_two {p1 p2 pt : Pos} {kk : Nat} (S : CScopeN X scope [x1, x2] N' js) (C : Addr) (fp : List Addr) (s₀ : Shared) (H₀ : Hp) : PGw (cxC X scope C fp s₀ H₀ N') (.Tuple [.Name x1 p1, .Name x2 p2] kk pt) (gN X.K 2) :=
  wg_tup rfl (wgs_cons (wg_nm S rfl C fp s₀ H₀) (wgs_cons (wg_nm S rfl C fp s₀ H₀) wgs_nil))
theorem we_compN2 {p1 p2 pt : Pos} {kk : Nat} (S : CScopeN X scope [x1, x2] N' js) (hi : PIw X (.Tuple [.Name x1 p1, .Name x2 p2] kk pt) iter wi) (ht : ∀ C fp s₀ H₀, PTsw (cxC X scope C fp s₀ H₀ N') ifs tc) (he : ∀ C fp s₀ H₀, PEw (cxC X scope C fp s₀ H₀ N') elt te)
    (hs : ∀ x, foldedSetIterable iter X.env x = pure x := by intro _; rfl) : PEw X (.ListComp elt [⟨.Tuple [.Name x1 p1, .Name x2 p2] kk pt, iter, ifs, 0⟩] scope pos) (tCompN X.K 2 wi js tc te) :=
  ⟨pe_compN S hi.p (fun C fp s₀ H₀ => (wg_two S C fp s₀ H₀).p) (fun C fp s₀ H₀ => (ht C fp s₀ H₀).p) (fun C fp s₀ H₀ => (he C fp s₀ H₀).p) hs⟩
theorem ws_setCompN2 {p1 p2 pt : Pos} {kk : Nat} (S : CScopeN X scope [x1, x2] N' js) (hN : X.N.Nodup) (hiN : X.N[i]? = some y) (hy : X.env.kindOf y = some .local) (hi : PIw X (.Tuple [.Name x1 p1, .Name x2 p2] kk pt) iter wi) (ht : ∀ C fp s₀ H₀, PTsw (cxC X scope C fp s₀ H₀ N') ifs tc) (he : ∀ C fp s₀ H₀, PEw (cxC X scope C fp s₀ H₀ N') elt te)
    (hsw : swapsWith (.ListComp elt [⟨.Tuple [.Name x1 p1, .Name x2 p2] kk pt, iter, ifs, 0⟩] scope pos) (some (.Name y py)) spos.line X.env = pure true := by rfl) (hs : ∀ x, foldedSetIterable iter X.env x = pure x := by intro _; rfl) :
    PSw X (.Assign [.Name y py] (.ListComp elt [⟨.Tuple [.Name x1 p1, .Name x2 p2] kk pt, iter, ifs, 0⟩] scope pos) spos) (tAsg (tCompN X.K 2 wi js tc te) (gName i)) :=
  ⟨ps_setCompN S hN hiN hy hi.p (fun C fp s₀ H₀ => (wg_two S C fp s₀ H₀).p) (fun C fp s₀ H₀ => (ht C fp s₀ H₀).p) (fun C fp s₀ H₀ => (he C fp s₀ H₀).p) hsw hs⟩
end
def cscNOk (psc scope : Scope) (N : List Str) (xs N' : List Str) (js : List Nat) : Bool :=
  (scope.names.all fun y => !(y.2 == .free) || psc.names.lookup y.1 == some .cell) && (scope.names.all fun y => !(y.2 == .cell)) && scope.kind == .function &&
  (scope.names.all fun y => !(y.2 == .local) || scope.names.lookup y.1 == some .local) && (xs.all fun x => scope.names.lookup x == some .local) &&
  (scope.names.all fun y => !(y.2 == .free) || !(scope.names.lookup y.1 == some .local)) && N'.length == xs.length + js.length && N'.take xs.length == xs && decide N'.Nodup &&
  ((List.range js.length).all fun i => match js[i]?, N'[xs.length + i]? with
    | some j, some y => N[j]? == some y && scope.names.contains (y, NameKind.free)
    | _, _ => false)
theorem CScopeN.of {X : Cx} {psc scope : Scope} {N : List Str} {xs N' : List Str} {js : List Nat} (h : cscNOk psc scope N xs N' js = true) (hX : X.env.scope = psc) (hN : X.N = N) (hc : X.calm = true) : CScopeN X scope xs N' js := by
  unfold cscNOk at h
  simp only [Bool.and_eq_true] at h
  obtain ⟨⟨⟨⟨⟨⟨⟨⟨⟨h1, h2⟩, h3⟩, h4⟩, h5⟩, h6⟩, h7⟩, h8⟩, h9⟩, h10⟩ := h
  rw [List.all_eq_true] at h1 h2 h4 h5 h6 h10
  refine ⟨hc, fun y hy e => ?_, fun y hy e => ?_, by simpa using h3, fun y hy e => ?_, fun x hx => by simpa using h5 x hx, fun y hy e => ?_, by simpa using h7, fun i x hx => ?_, of_decide_eq_true h9, fun i j hj => ?_⟩
  · have := h1 y hy
    rw [e] at this
    show X.env.scope.names.lookup y.1 = _
    rw [hX]
    simpa using this
  · have := h2 y hy
    rw [e] at this
    simp at this
  · have := h4 y hy
    rw [e] at this
    simpa using this
  · have := h6 _ hy
    rw [e] at this
    simp at this
  · have e8 : N'.take xs.length = xs := by simpa using h8
    have hi : i < xs.length := (List.getElem?_eq_some_iff.mp hx).1
    rw [← hx]
    conv => rhs; rw [← e8]
    rw [List.getElem?_take, if_pos hi]
  · have hi : i < js.length := (List.getElem?_eq_some_iff.mp hj).1
    have := h10 i (List.mem_range.mpr hi)
    rw [hj] at this
    cases q : N'[xs.length + i]? with
    | none => rw [q] at this; simp at this
    | some y =>
      rw [q] at this
      simp only [Bool.and_eq_true] at this
      exact ⟨y, rfl, by rw [hN]; simpa using this.1, List.contains_iff_mem.mp this.2⟩
/-! ### their readings -/
theorem paired_at {α β : Type} {R : α → β → Prop} : ∀ {l : List α} {m : List β} {i : Nat} {b : β}, Paired R l m → m[i]? = some b → ∃ a, l[i]? = some a ∧ R a b
  | _, _, _, _, .nil, h => by simp at h
  | _, _, 0, b, .cons h t, e => ⟨_, rfl, by cases (show _ = b by simpa using e); exact h⟩
  | _, _, i + 1, b, .cons h t, e => by
    obtain ⟨a, h1, h2⟩ := paired_at t (i := i) (by simpa using e)
    exact ⟨a, by simpa using h1, h2⟩
section
variable {js : List Nat} {te : TE} {tc : TT} {σ : St} {H : Hp} {Q : VK}
theorem compN_flt {K : PySem.W.Frag} {n : Nat} {J : It} {α : Type} {as : List α} (p : α → Bool) (Src : α → V → Prop) (R : α → V → Hp → Prop) (hR : ∀ c y H1 H2, SameT H1 H2 → R c y H1 → R c y H2) (hz : as.length ≤ 100000)
    (hg : ∀ i H', Same H H' → i < as.length → J.go i H' ∧ ∀ x H3, J.yld i H' x H3 → H3 = H' ∧ ∃ c, as[i]? = some c ∧ Src c x) (hst : ∀ H', Same H H' → J.stop as.length H')
    (hs : ∀ x c H', c ∈ as → Src c x → Same H H' → ∃ a vs, x = .ref a ∧ SqT K H' a vs ∧ vs.length = n ∧ (∀ Q' : Bool → Hp → Prop, (∀ H5, Same H' H5 → Q' (p c) H5) → tc (vs.map some ++ slots σ js) H' Q') ∧
      ∀ H5 (Q' : VK), Same H' H5 → p c = true → (∀ y H6, Same H5 H6 → R c y H6 → Q' y H6) → te (vs.map some ++ slots σ js) H5 Q')
    (hd : ∀ D ys H', H D = none → H' D = some (.lst ys) → Same H H' → Paired (fun c y => R c y H') (as.filter p) ys → Q (.ref D) H') : CompN K n J σ js tc te H Q := by
  unfold CompN
  intro D hD
  have mono : ∀ {H1 H2 : Hp} {l : List α} {ys : List V}, SameT H1 H2 → Paired (fun c y => R c y H1) l ys → Paired (fun c y => R c y H2) l ys := by
    intro H1 H2 l ys s h
    induction h with
    | nil => exact .nil
    | cons h t ih => exact .cons (hR _ _ _ _ s h) ih
  have snoc : ∀ {H1 : Hp} {l : List α} {ys : List V} {c : α} {y : V}, Paired (fun c y => R c y H1) l ys → R c y H1 → Paired (fun c y => R c y H1) (l ++ [c]) (ys ++ [y]) := by
    intro H1 l ys c y h r
    induction h with
    | nil => exact .cons r .nil
    | cons h t ih => exact .cons h ih
  refine ⟨fun i m ys H' => m = as.length - i ∧ i ≤ as.length ∧ H' D = some (.lst ys) ∧ Same H H' ∧ ys.length ≤ i ∧ Paired (fun c y => R c y H') ((as.take i).filter p) ys, ⟨as.length, by simp, Nat.zero_le _, upd_same, Same.upd hD, Nat.le_refl _, .nil⟩, ?_⟩
  rintro i m ys H2 ⟨rfl, hi, hD2, s2, hy, pr⟩
  refine ⟨hD2, ?_⟩
  by_cases hlt : i < as.length
  · obtain ⟨hgo, hyl⟩ := hg i H2 s2 hlt
    refine .inr ⟨hgo, Nat.lt_of_le_of_lt (m := 100000) (by (first | lia | omega)) (by decide), fun x H3 hy3 => ?_⟩
    obtain ⟨rfl, c, hc, rc⟩ := hyl x H3 hy3
    have hti : as.take (i + 1) = as.take i ++ [c] := by rw [List.take_add_one, hc]; rfl
    obtain ⟨a, vs, e, hq, hl, ht, he⟩ := hs x c H3 (List.mem_of_getElem? hc) rc s2
    refine ⟨a, vs, e, hq, hl, fun b H4 => b = p c ∧ Same H3 H4, ht _ fun H5 s5 => ⟨rfl, s5⟩, ?_⟩
    rintro b H4 ⟨rfl, s4⟩
    by_cases hp : p c = true
    · rw [if_pos hp]
      refine ⟨fun y H5 => Same H4 H5 ∧ R c y H5, he H4 _ s4 hp fun y H6 s6 r => ⟨s6, r⟩, ?_⟩
      rintro y H5 ⟨s5, r⟩
      have e5 := s5 _ _ (s4 _ _ hD2)
      refine ⟨e5, _, ?_, rfl, hlt, upd_same, Same.thru hD ((s2.trans s4).trans s5) SameBut.self, ?_, ?_⟩
      · (first | lia | omega)
      · rw [List.length_append, List.length_singleton]; (first | lia | omega)
      · rw [hti, List.filter_append, show List.filter p [c] = [c] by simp [hp]]
        have t6 : SameT H5 (upd H5 D (.lst (ys ++ [y]))) := SameBut.t SameBut.self e5
        exact mono t6 (snoc (mono (s4.trans s5).t pr) r)
    · rw [if_neg hp]
      refine ⟨s4 _ _ hD2, _, ?_, rfl, hlt, s4 _ _ hD2, s2.trans s4, by (first | lia | omega), ?_⟩
      · (first | lia | omega)
      · rw [hti, List.filter_append, show List.filter p [c] = [] by simp [hp], List.append_nil]
        exact mono s4.t pr
  · have e : i = as.length := by (first | lia | omega)
    subst e
    refine .inl ⟨hst H2 s2, hd D ys H2 hD hD2 s2 ?_⟩
    rw [List.take_length] at pr
    exact pr
/-- over a tuple or list whose items are tracked data -/
theorem compN_tup {K : PySem.W.Frag} {n : Nat} {a0 : Addr} {xs : List V} {α : Type} {as : List α} (p : α → Bool) (Src : α → V → Prop) (R : α → V → Hp → Prop) (hR : ∀ c y H1 H2, SameT H1 H2 → R c y H1 → R c y H2) (hz : as.length ≤ 100000) (ha : H a0 = some (.tup xs)) (pr : Paired Src as xs)
    (hs : ∀ x c H', c ∈ as → Src c x → Same H H' → ∃ a vs, x = .ref a ∧ SqT K H' a vs ∧ vs.length = n ∧ (∀ Q' : Bool → Hp → Prop, (∀ H5, Same H' H5 → Q' (p c) H5) → tc (vs.map some ++ slots σ js) H' Q') ∧
      ∀ H5 (Q' : VK), Same H' H5 → p c = true → (∀ y H6, Same H5 H6 → R c y H6 → Q' y H6) → te (vs.map some ++ slots σ js) H5 Q')
    (hd : ∀ D ys H', H D = none → H' D = some (.lst ys) → Same H H' → Paired (fun c y => R c y H') (as.filter p) ys → Q (.ref D) H') : CompN K n (Itt K a0) σ js tc te H Q := by
  have hl : xs.length = as.length := pr.length.symm
  refine compN_flt p Src R hR hz (fun i H' s hi => ⟨⟨xs, xs[i]'(by (first | lia | omega)), SqT.of (s _ _ ha), by simp⟩, fun x H3 y => ⟨y.1, ?_⟩⟩) (fun H' s => ⟨xs, SqT.of (s _ _ ha), by (first | lia | omega)⟩) hs hd
  have hx := y.2 xs (SqT.of (s _ _ ha))
  obtain ⟨c, h1, h2⟩ := paired_at pr hx
  exact ⟨c, h1, h2⟩
theorem compN_lst {K : PySem.W.Frag} {n : Nat} {a0 : Addr} {xs : List V} {α : Type} {as : List α} (p : α → Bool) (Src : α → V → Prop) (R : α → V → Hp → Prop) (hR : ∀ c y H1 H2, SameT H1 H2 → R c y H1 → R c y H2) (hz : as.length ≤ 100000) (ha : H a0 = some (.lst xs)) (pr : Paired Src as xs)
    (hs : ∀ x c H', c ∈ as → Src c x → Same H H' → ∃ a vs, x = .ref a ∧ SqT K H' a vs ∧ vs.length = n ∧ (∀ Q' : Bool → Hp → Prop, (∀ H5, Same H' H5 → Q' (p c) H5) → tc (vs.map some ++ slots σ js) H' Q') ∧
      ∀ H5 (Q' : VK), Same H' H5 → p c = true → (∀ y H6, Same H5 H6 → R c y H6 → Q' y H6) → te (vs.map some ++ slots σ js) H5 Q')
    (hd : ∀ D ys H', H D = none → H' D = some (.lst ys) → Same H H' → Paired (fun c y => R c y H') (as.filter p) ys → Q (.ref D) H') : CompN K n (Itl K a0) σ js tc te H Q := by
  have hl : xs.length = as.length := pr.length.symm
  refine compN_flt p Src R hR hz (fun i H' s hi => ⟨⟨xs, xs[i]'(by (first | lia | omega)), SqL.of (s _ _ ha), by simp⟩, fun x H3 y => ⟨y.1, ?_⟩⟩) (fun H' s => ⟨xs, SqL.of (s _ _ ha), by (first | lia | omega)⟩) hs hd
  have hx := y.2 xs (SqL.of (s _ _ ha))
  obtain ⟨c, h1, h2⟩ := paired_at pr hx
  exact ⟨c, h1, h2⟩
end
end L2
set_option Elab.async false
set_option linter.all false
set_option maxRecDepth 100000
namespace L2
open PySem PySem.Spec PyProof.Rows
section
variable {X : Cx}
end
end L2
set_option Elab.async false
set_option linter.all false
set_option maxRecDepth 100000
namespace L2
open PySem
/-! ### [.. for a, b in zip(..)] -/
section
variable {js : List Nat} {te : TE} {σ : St} {H : Hp} {Q : VK}
end
theorem Paired.ofRepL {H : Hp} {α : Type} {g : α → PyData} : ∀ {as : List α} {xs : List V}, RepL H (as.map g) xs → Paired (fun a x => Rep H (g a) x) as xs
  | [], xs, r => by
    unfold RepL at r
    cases (show xs = [] from r)
    exact .nil
  | a :: as, xs, r => by
    rw [List.map_cons] at r
    unfold RepL at r
    obtain ⟨x, xs', rfl, r1, r2⟩ := r
    exact .cons r1 (Paired.ofRepL r2)
end L2
set_option Elab.async false
set_option linter.all false
set_option maxRecDepth 100000
namespace L2
open PySem
section
variable {X : Cx} {scope : Scope} {x1 x2 x3 y : Str} {N' : List Str} {js : List Nat} {elt iter tg : Expr} {ifs : List Expr} {py pos spos : Pos} {tc : TT} {te : TE} {wi wj : TI} {i : Nat}
end
end L2
set_option Elab.async false
set_option linter.all false
set_option maxRecDepth 100000
namespace L2
open PySem PySem.Spec PyProof.Rows
/-! ### sorted(ints, reverse=True) -/
theorem boot_sorted : bootBuiltins (Str.ofString "sorted") = some (Value.builtin "sorted") := by decide +kernel
@[irreducible] def rSrtR (K : PySem.W.Frag) (x : V) (H : Hp) (Q : VK) : Prop := ∃ (p : Addr) (ns : List Int), x = .ref p ∧ SqL K H p (ns.map V.int) ∧ ns.length < 64 ∧ ∀ (D : Addr) (ns' : List Int) (H' : Hp), ns'.Perm ns → H D = none → H' D = some (.lst (ns'.map V.int)) → Same H H' → Q (.ref D) H'
theorem rsrtR {K : PySem.W.Frag} {p : Addr} {ns : List Int} {H : Hp} {Q : VK} (h : H p = some (.lst (ns.map V.int))) (hz : ns.length < 64) (q : ∀ (D : Addr) (ns' : List Int) (H' : Hp), ns'.Perm ns → H D = none → H' D = some (.lst (ns'.map V.int)) → Same H H' → Q (.ref D) H') : rSrtR K (.ref p) H Q := by
  unfold rSrtR; exact ⟨p, ns, rfl, SqL.of h, hz, q⟩
def tSrtR (K : PySem.W.Frag) (ta : TE) : TE := fun σ H Q => ta σ H fun x H1 => rSrtR K x H1 Q
section
variable {X : Cx}
theorem valsInts : ∀ {vs : List Value} {ns : List Int}, IntsAre vs ns → Vals (ns.map V.int) vs := by
  intro vs ns h
  induction h with
  | nil => exact .nil
  | cons => rename_i ih; exact .cons ⟨_, rfl⟩ ih
theorem we_srtR (K : PySem.W.Frag) {a v : Expr} {ta tv : TE} {p pos kp : Pos} (hg : Gl X "sorted") (hm : X.mg "sorted" = none) (ha : PEw X a ta) (hv : PEw X v tv) (ht : ∀ σ H Q, tv σ H Q ↔ Q (.bl true) H) (hK : X.K = K := by rfl)
    (he : eval (.Call (.Name "sorted" p) [a] [⟨some "reverse", v, kp⟩] pos) X.env = (do callWith pos (← eval (.Name "sorted" p) X.env) [] (backTo pos (starEach [a] X.env)) (backToKw pos (keywordEach [⟨some "reverse", v, kp⟩] X.env))) := by rfl)
    (hs : starEach [a] X.env = [(false, eval a X.env)] := by first | exact se_Name | exact se_Call | exact se_Subscript | rfl) :
    PEw X (.Call (.Name "sorted" p) [a] [⟨some "reverse", v, kp⟩] pos) (tSrtR K ta) := ⟨by
  subst hK
  intro pins s σ H Q I h
  rw [he]
  refine wpAny_bind (ld_blt I hg hm boot_sorted ?_)
  have hb : backTo pos (starEach [a] X.env) = [(false, eval a X.env)] := by rw [hs]; rfl
  refine PyProof.Rows.callWith_kw ?_ (by rw [hb]; rfl) (by rw [hb]; rfl) rfl rfl
  rw [hb]
  refine Calls.spliced_cons (thn (ha.p pins s σ H _ I h) fun u s1 ⟨x, H1, I1, rx, q1⟩ => Calls.spliced_nil ?_)
  refine kws_cons (thn (hv.p pins s1 σ H1 (fun w H' => w = .bl true ∧ H' = H1) I1 ((ht _ _ _).mpr ⟨rfl, rfl⟩)) fun u2 s2 ⟨w, H2, I2, rw2, ew, eH⟩ => ?_)
  subst ew eH
  cases (show u2 = Value.bool true from rw2)
  refine kws_nil ?_
  unfold rSrtR at q1
  obtain ⟨l, ns, rfl, hq, hz, q⟩ := q1
  cases (show u = Value.ref l from rx)
  obtain ⟨its, r', pl, hz'⟩ := I2.list hq
  have hl : s2.heap.IsList l its.toArray := by
    obtain ⟨o, n, ho, hcl, hdd, hd⟩ := pl
    exact ⟨o, ho, hcl, n, hd⟩
  have hlen := r'.length
  rw [List.length_map] at hlen hz'
  refine sorted_ints_rev (b := true) hl (intsAre_of r') (by (first | lia | omega)) fun out ns' a1 a2 _ => ?_
  obtain ⟨e, he⟩ := sortedAll_at s2.heap its out
  have hn := I2.hok.fresh (a := s2.heap.objs.size + 1) (by (first | lia | omega))
  have hl2 : ns'.length = ns.length := a2.length_eq
  refine ⟨.ref _, upd H2 (s2.heap.objs.size + 1) (.lst (ns'.map V.int)), I2.laid (t' := s2.toks) (fun _ _ => sortedAll_old) (by (first | lia | omega)) ⟨by rw [List.length_map]; (first | lia | omega), _, e, valsInts a1, ?_⟩, rfl, q _ ns' _ a2 hn upd_same (Same.upd hn)⟩
  rw [Array.toArray_toList]
  exact he⟩
end
end L2
set_option Elab.async false
set_option linter.all false
set_option maxRecDepth 100000
namespace L2
open PySem PySem.Spec PySem.W PyProof.Rows HT
/-! ### tuples of pairs among the text's objects -/
def prsAre (K : PySem.W.Frag) : List Value → List (Int × Int) → Bool
  | [], [] => true
  | .ref a :: vs, n :: ns => intsIn K a [n.1, n.2] && prsAre K vs ns
  | _, _ => false
def prsIn (K : PySem.W.Frag) (a : Addr) (ns : List (Int × Int)) : Bool :=
  match K.lookup a with
  | some o => (match o.cls with | .type n => n == "tuple" | _ => false) && (match o.data with | .seq xs _ => decide (xs.size ≤ 64) && prsAre K xs.toList ns | _ => false)
  | none => false
theorem prsAre.vals {K : PySem.W.Frag} {H : Hp} : ∀ {vs : List Value} {ns : List (Int × Int)}, prsAre K vs ns = true → ∃ xs, Vals xs vs ∧ RepKL K H (ns.map fun n => .tuple [.int n.1, .int n.2]) xs
  | [], [], _ => ⟨[], .nil, by unfold RepKL; rfl⟩
  | v :: vs, n :: ns, h => by
    cases v with
    | ref a =>
      have h' : (intsIn K a [n.1, n.2] && prsAre K vs ns) = true := h
      rw [Bool.and_eq_true] at h'
      obtain ⟨xs, h1, h2⟩ := prsAre.vals (H := H) h'.2
      refine ⟨.ref a :: xs, .cons rfl h1, ?_⟩
      rw [List.map_cons]
      unfold RepKL
      exact ⟨_, _, rfl, RepK.tup (sqT_ints h'.1) (RepKL.ints [n.1, n.2]), h2⟩
    | _ => cases h
  | [], _ :: _, h => by cases h
  | v :: _, [], h => by cases v <;> cases h
theorem repK_prs {K : PySem.W.Frag} {H : Hp} {a : Addr} {ns : List (Int × Int)} (h : prsIn K a ns = true) : RepK K H (.tuple (ns.map fun n => .tuple [.int n.1, .int n.2])) (.ref a) := by
  unfold prsIn at h
  split at h
  · rename_i o ho
    rw [Bool.and_eq_true] at h
    obtain ⟨h1, h2⟩ := h
    split at h1
    · rename_i n hn
      split at h2
      · rename_i xs m hx
        rw [Bool.and_eq_true] at h2
        have e : n = "tuple" := by simpa using h1
        subst e
        obtain ⟨ys, g1, g2⟩ := prsAre.vals (H := H) h2.2
        exact RepK.tup (.inr ⟨o, xs, m, ho, hn, hx, small64 (of_decide_eq_true h2.1), g1⟩) g2
      · cases h2
    · cases h1
  · cases h
@[irreducible] def rMinL (K : PySem.W.Frag) : List V → Hp → VK → Prop := fun xs H Q => ∃ (p : Addr) (ns : List Int), xs = [.ref p] ∧ SqL K H p (ns.map V.int) ∧ 0 < ns.length ∧ ∀ M, M ∈ ns → (∀ a, a ∈ ns → M ≤ a) → Q (.int M) H
theorem rmnl {K : PySem.W.Frag} {H : Hp} {Q : VK} {p : Addr} {ns : List Int} (h : SqL K H p (ns.map V.int)) (hn : 0 < ns.length) (q : ∀ M, M ∈ ns → (∀ a, a ∈ ns → M ≤ a) → Q (.int M) H) : rMinL K [.ref p] H Q := by
  unfold rMinL; exact ⟨p, ns, rfl, h, hn, q⟩
theorem cl_minL {X : Cx} (K : PySem.W.Frag) (hc : X.calm = true) (hK : X.K = K := by rfl) : CallR X (.builtin "min") (rMinL K) := by
  subst hK
  unfold rMinL
  intro pins s σ H xs us Q I r h
  obtain ⟨p, ns, rfl, hq, hn, q⟩ := h
  obtain ⟨u, rfl, rx⟩ := vals1 r
  cases rx
  obtain ⟨its, r', pl, hz⟩ := I.list hq
  have hi := intsAre_of r'
  obtain ⟨zs, e⟩ := hi.allInts.items
  have hns : ns = zs.toList.map (·.1) := by rw [← hi.numsOf, ← nums_intItems, ← e]
  have hsz : 0 < zs.size := by rw [hns, List.length_map, Array.length_toList] at hn; exact hn
  rw [e] at pl
  refine min_intList (I.ok.hd hc) pl.isList hsz fun v h' tk hv hk => ?_
  obtain ⟨t, rfl⟩ := intItems_at hv
  obtain ⟨h1, h2⟩ := argBest_lt (numAt zs) (zs.size - 1)
  refine ⟨.int _, H, I.kept hk, ⟨t, rfl⟩, q _ ?_ fun a ha => ?_⟩
  · rw [hns, numAt_eq]; exact getD_mem (by rw [List.length_map, Array.length_toList]; (first | lia | omega))
  · rw [hns] at ha
    obtain ⟨j, hj, rfl⟩ := mem_getD ha
    rw [List.length_map, Array.length_toList] at hj
    rw [← numAt_eq]; exact h2 j (by (first | lia | omega))
end L2
set_option linter.all false
/-! fractions: the mathematics -/
namespace Mf
/-- n / d brought down -/
def lw (n d : Int) : Int × Int := (n / (Int.gcd n d : Int), d / (Int.gcd n d : Int))
theorem gcd_pos {n d : Int} (h : 0 < d) : 0 < (Int.gcd n d : Int) := by
  have := Int.gcd_pos_of_ne_zero_right n (Int.ne_of_gt h)
  (first | lia | omega)
end Mf
set_option linter.all false
/-! lists of fractions: the mathematics -/
namespace Mf
abbrev Fr := Int × Int
end Mf
set_option Elab.async false
set_option linter.all false
namespace Mf
end Mf
set_option Elab.async false
set_option linter.all false
namespace Mf
end Mf
set_option Elab.async false
set_option linter.all false
namespace Mf
end Mf
set_option Elab.async false
set_option linter.all false
set_option maxRecDepth 100000
namespace Kw
open PySem L2 Mf
def top (i : Nat) : Stmt := PySem.Challenge.pw_earlystop_k25_bounds_of_rules.main.body.getD i (.Pass ⟨0, 0, 0, 0⟩)
structure Cl where
  ONE : Addr
  ON : Addr
  SAYS_FIRST : Addr
  SAYS_SECOND : Addr
structure Txt (K : PySem.W.Frag) (mg : Str → Option Value) (c : Cl) : Prop where
  b_list : mg "list" = none
  b_len : mg "len" = none
  b_abs : mg "abs" = none
  b_repr : mg "repr" = none
  b_range : mg "range" = none
  b_sum : mg "sum" = none
  b_max : mg "max" = none
  b_int : mg "int" = none
  b_sorted : mg "sorted" = none
  b_all : mg "all" = none
  b_min : mg "min" = none
  b_tuple : mg "tuple" = none
  g_ONE : mg "ONE" = some (.ref c.ONE)
  g_ON : mg "ON" = some (.ref c.ON)
  g_SAYS_FIRST : mg "SAYS_FIRST" = some (.ref c.SAYS_FIRST)
  g_SAYS_SECOND : mg "SAYS_SECOND" = some (.ref c.SAYS_SECOND)
  o_ONE : intsIn K c.ONE [1, 1] = true
  o_ON : prsIn K c.ON [(1, 1), (0, 1), (0, 1)] = true
  o_SAYS_FIRST : prsIn K c.SAYS_FIRST [(0, 1), (1, 1), (0, 1)] = true
  o_SAYS_SECOND : prsIn K c.SAYS_SECOND [(0, 1), (0, 1), (1, 1)] = true
abbrev s__law_tape : Stmt := (top 12)
theorem sc__law_tape : FnScope ["_law_script", "_law_at", "_law_cell"] ["_law_script", "_law_at"] (defScope s__law_tape) := ⟨rfl, rfl, rfl, by decide +kernel, rfl, by decide +kernel, by decide +kernel⟩
abbrev s__law_pick : Stmt := (top 13)
theorem sc__law_pick : FnScope ["_law_tape_here", "_law_many", "_law_turn", "_law_found", "_law_stirred"] ["_law_tape_here", "_law_many"] (defScope s__law_pick) := ⟨rfl, rfl, rfl, by decide +kernel, rfl, by decide +kernel, by decide +kernel⟩
abbrev s__law_frac : Stmt := (top 14)
theorem sc__law_frac : FnScope ["_law_n", "_law_d", "_law_one", "_law_other"] ["_law_n", "_law_d"] (defScope s__law_frac) := ⟨rfl, rfl, rfl, by decide +kernel, rfl, by decide +kernel, by decide +kernel⟩
abbrev s__law_shares : Stmt := (top 15)
theorem sc__law_shares : FnScope ["_law_tape_here", "_law_many", "_law_parts"] ["_law_tape_here", "_law_many"] (defScope s__law_shares) := ⟨rfl, rfl, rfl, by decide +kernel, rfl, by decide +kernel, by decide +kernel⟩
abbrev s__law_says : Stmt := (top 16)
theorem sc__law_says : FnScope ["_law_tape_here", "_law_ways", "_law_stops", "_law_plain", "_law_place_here"] ["_law_tape_here", "_law_ways", "_law_stops", "_law_plain"] (defScope s__law_says) := ⟨rfl, rfl, rfl, by decide +kernel, rfl, by decide +kernel, by decide +kernel⟩
abbrev s__law_next : Stmt := (top 17)
theorem sc__law_next : FnScope ["_law_counts", "_law_says_here"] ["_law_counts", "_law_says_here"] (defScope s__law_next) := ⟨rfl, rfl, rfl, by decide +kernel, rfl, by decide +kernel, by decide +kernel⟩
abbrev s__law_rule : Stmt := (top 18)
theorem sc__law_rule : FnScope ["_law_tape_here", "_law_faces", "_law_ways", "_law_most", "_law_plain", "_law_found", "_law_level", "_law_later", "_law_counts", "_law_says_here"] ["_law_tape_here", "_law_faces", "_law_ways", "_law_most", "_law_plain"] (defScope s__law_rule) := ⟨rfl, rfl, rfl, by decide +kernel, rfl, by decide +kernel, by decide +kernel⟩
abbrev s_law : Stmt := (top 24)
theorem sc_law : FnScope ["_law_script", "_law_k", "_law_tape_here", "_law_most", "_law_rule_here", "_law_at", "_law_counts", "_law_says_here", "_law_other", "_law_bent", "_law_one", "_law_found"] ["_law_script"] (defScope s_law) := ⟨rfl, rfl, rfl, by decide +kernel, rfl, by decide +kernel, by decide +kernel⟩
/-! ### the tape -/
abbrev tpD (c l t : Int) : List (Key × V) := [(.inr "cell", .int c), (.inr "left", .int l), (.inr "turn", .int t)]
structure TapeAt (H : Hp) (p : Addr) (n : Nat) : Prop where
  ex : ∃ c l t : Int, H p = some (.dK (tpD c l t)) ∧ 0 ≤ l ∧ 0 ≤ t ∧ t + n ≤ 1000000000000
theorem TapeAt.ne {H : Hp} {p q : Addr} {n : Nat} (F : TapeAt H p n) (hq : H q = none) : q ≠ p := fun e => by
  subst e; obtain ⟨c, l, t, h, _⟩ := F.ex; rw [h] at hq; cases hq
theorem TapeAt.there {H : Hp} {p : Addr} {n : Nat} (F : TapeAt H p n) : ∃ o, H p = some o := by obtain ⟨c, l, t, h, _⟩ := F.ex; exact ⟨_, h⟩
theorem TapeAt.same {H H' : Hp} {p : Addr} {n : Nat} (F : TapeAt H p n) (s : Same H H') : TapeAt H' p n := by
  obtain ⟨c, l, t, h, r⟩ := F.ex
  exact ⟨c, l, t, s _ _ h, r⟩
theorem TapeAt.but {H H' : Hp} {p D : Addr} {n : Nat} (F : TapeAt H p n) (s : SameBut D H H') (n1 : D ≠ p) : TapeAt H' p n := by
  obtain ⟨c, l, t, h, r⟩ := F.ex
  exact ⟨c, l, t, s.at (Ne.symm n1) h, r⟩
theorem TapeAt.less {H : Hp} {p : Addr} {n m : Nat} (F : TapeAt H p n) (h : m ≤ n) : TapeAt H p m := by
  obtain ⟨c, l, t, e, l0, t0, r⟩ := F.ex
  exact ⟨c, l, t, e, l0, t0, by (first | lia | omega)⟩
theorem TapeAt.t {H H' : Hp} {p : Addr} {n : Nat} (F : TapeAt H p n) (s : SameBut p H H') : SameT H H' := by
  obtain ⟨c, l, t, h, _⟩ := F.ex
  exact s.tD h
theorem TapeAt.like {p : Addr} {n : Nat} (f : Nat → Nat) : TapeLike p (fun i H => TapeAt H p (f i)) :=
  ⟨fun _ D H1 H2 n1 s F => F.but s n1, fun _ H1 H2 s F => F.same s, fun _ H' F => by obtain ⟨c, l, t, h, _⟩ := F.ex; exact ⟨_, h⟩⟩
@[irreducible] def sp_tape (K : PySem.W.Frag) : Sp := fun vs H Q _ => ∃ (a : Addr) (ns : List Int) (k : Int), vs = [.ref a, .int k] ∧ SqL K H a (ns.map V.int) ∧ ns.length ≤ 63 ∧ 0 ≤ k ∧ ∀ p H', TapeAt H' p 1000000000000 → Same H H' → H p = none → Q (.ref p) H'
theorem sp_tape_i {K : PySem.W.Frag} {H : Hp} {Q : VK} {E : XK} {a : Addr} {ns : List Int} {k : Int} (h : SqL K H a (ns.map V.int)) (hl : ns.length ≤ 63) (hk : 0 ≤ k) (q : ∀ p H', TapeAt H' p 1000000000000 → Same H H' → H p = none → Q (.ref p) H') : sp_tape K [.ref a, .int k] H Q E := by
  unfold sp_tape; exact ⟨a, ns, k, rfl, h, hl, hk, q⟩
@[irreducible] def sp_pick : Sp := fun vs H Q _ => ∃ (p : Addr) (n : Nat) (m : Int), vs = [.ref p, .int m] ∧ TapeAt H p (n + 1) ∧ 0 < m ∧ bits m ≤ 64 ∧ ∀ x H', 0 ≤ x → x < m → TapeAt H' p n → SameBut p H H' → Q (.int x) H'
theorem sp_pick_i {H : Hp} {Q : VK} {E : XK} {p : Addr} {n : Nat} {m : Int} (F : TapeAt H p (n + 1)) (h : 0 < m) (hb : bits m ≤ 64) (k : ∀ x H', 0 ≤ x → x < m → TapeAt H' p n → SameBut p H H' → Q (.int x) H') : sp_pick [.ref p, .int m] H Q E := by
  unfold sp_pick; exact ⟨p, n, m, rfl, F, h, hb, k⟩
theorem bitsle {i : Int} {n : Nat} (h : i.natAbs < 2 ^ n) : bits i ≤ n := PySem.intBits_le_iff.mpr h
@[irreducible] def sp_law (K : PySem.W.Frag) : Sp := fun vs H Q _ => ∃ (a : Addr) (ns : List Int), vs = [.ref a] ∧ SqL K H a (ns.map V.int) ∧ ns.length ≤ 63 ∧ ∀ H', Q (.bl true) H'
theorem sp_law_i {K : PySem.W.Frag} {H : Hp} {a : Addr} {ns : List Int} (h : SqL K H a (ns.map V.int)) (hl : ns.length ≤ 63) : sp_law K [.ref a] H (fun v _ => v = .bl true) (fun _ _ _ => False) := by
  unfold sp_law; exact ⟨a, ns, rfl, h, hl, fun _ => rfl⟩
theorem rlQ {K : PySem.W.Frag} {H : Hp} {p : Addr} {xs : List V} {Q : VK} (h : SqL K H p xs) (q : Q (.int xs.length) H) : rLen K [V.ref p] H Q := by unfold rLen; exact ⟨_, _, rfl, .inl ⟨xs, h, rfl⟩, q⟩
section
variable {P : Program} {w : World} {K : PySem.W.Frag} {mg : Str → Option Value} {base : Heap} {c : Cl}
theorem ok__law_tape {f : Addr} {fd : FuncData} (F : Fun K "_law_tape" "_law_tape" s__law_tape f fd) (T : Txt K mg c) : FnOk P w K mg base CX0 1 f fd ["_law_script", "_law_at"] (sp_tape K) := by
  refine F.okw sc__law_tape (fun vs H Q E h => ?_) (fun cdv A outer s H vs Q E hr h => ?_)
  · unfold sp_tape at h
    obtain ⟨a, ns, i, rfl, _⟩ := h
    rfl
  · unfold sp_tape at h
    obtain ⟨a, ns, i, rfl, hS, hl, hi, k⟩ := h
    refine ⟨_, (wss_cons (ws_set (i := 2) sc__law_tape.nd rfl (Or.inl rfl) (we_v 1))
      (wss_cons (ws_cut (ws_if (wt_cmp op_gt (we_cB cl_len (by rfl) T.b_len (by decide +kernel) (wa_k (we_v 0) wa_nil)) we_int (nomark _)) (wss_one (ws_set (i := 2) sc__law_tape.nd rfl (Or.inl rfl) (we_op op_add (we_ix ix_seq (we_v 0) (we_op op_mod (we_v 1) (we_cB cl_len (by rfl) T.b_len (by decide +kernel) (wa_k (we_v 0) wa_nil))) (fun _ _ => rfl)) (we_op op_fdivB (we_v 1) (we_cB cl_len (by rfl) T.b_len (by decide +kernel) (wa_k (we_v 0) wa_nil)))))) wss_nil))
      (wss_one (ws_ret (we_disp (wpp_cons we_str (we_v 2) (wpp_cons we_str (we_cB (call_max2 rfl) (by rfl) T.b_max (by decide +kernel) (wa_k we_int (wa_k (we_op op_sub (we_v 2) (we_op op_pow we_int we_int)) wa_nil))) (wpp_cons we_str we_int wpp_nil)))))))), ?_⟩
    refine ⟨_, rfl, ?_⟩
    refine ⟨fun σ H3 => ∃ c : Int, σ = [some (.ref a), some (.int i), some (.int c)] ∧ H3 = H, ?_, ?_⟩
    · rintro σ H3 ⟨c, rfl, rfl⟩
      intro p hp
      refine ⟨_, rfl, ?_⟩
      refine ⟨_, rfl, _, _, rfl, rfl, ⟨by decide, by decide, by decide⟩, _, _, rfl, rfl, _, _, rfl, ?_⟩
      refine ⟨upd_same, tpD c (if c - 10 ^ 18 > 0 then c - 10 ^ 18 else 0) 0, rfl, by show 3 ≤ 15; decide, ?_⟩
      refine k p _ ⟨c, (if c - 10 ^ 18 > 0 then c - 10 ^ 18 else 0), 0, ?_, by split <;> (first | lia | omega), by decide, by decide⟩ ?_ hp
      · rw [upd_same]; rfl
      · intro b o h
        have nb : b ≠ p := fun e => by subst e; rw [hp] at h; cases h
        rw [L2.upd_ne nb, L2.upd_ne nb]; exact h
    · refine ⟨_, rfl, ?_⟩
      refine rlQ hS ?_
      refine ⟨_, _, rfl, rfl, _, rfl, ?_⟩
      rw [List.length_map]
      refine iteD (fun e1 => ?_) (fun e1 => ?_)
      · refine ⟨_, rfl, _, rfl, _, rfl, ?_⟩
        refine rlQ hS ?_
        rw [List.length_map]
        refine ⟨_, _, rfl, rfl, e1, ?_⟩
        have g0 := Int.emod_nonneg i (b := (ns.length : Int)) (by (first | lia | omega))
        have g1 := Int.emod_lt_of_pos i e1
        have hj : ∃ z, ns[(i % (ns.length : Int)).toNat]? = some z := ⟨_, List.getElem?_eq_getElem (by (first | lia | omega))⟩
        obtain ⟨z, hz⟩ := hj
        have hat : atI (ns.map V.int) (i % (ns.length : Int)) = some (.int z) := by
          have := atI_nat (xs := ns.map V.int) (j := (i % (ns.length : Int)).toNat) (v := V.int z) (by rw [List.getElem?_map, hz]; rfl)
          rwa [Int.toNat_of_nonneg g0] at this
        refine .inl ⟨a, _, _, _, rfl, rfl, hS, hat, ?_⟩
        refine ⟨_, rfl, _, rfl, ?_⟩
        refine rlQ hS ?_
        rw [List.length_map]
        refine ⟨_, _, rfl, rfl, ⟨e1, bitsle (by have : ((ns.length : Int)).natAbs ≤ 63 := by (first | lia | omega)
                                                exact Nat.lt_of_le_of_lt this (Nat.lt_of_lt_of_le (show 63 < 2 ^ 6 by decide) (Nat.pow_le_pow_right (by decide) (by decide))))⟩, ?_⟩
        refine ⟨_, _, rfl, rfl, ?_⟩
        exact ⟨_, rfl, rfl⟩
      · exact ⟨_, rfl, rfl⟩
theorem ok__law_pick {f : Addr} {fd : FuncData} (F : Fun K "_law_pick" "_law_pick" s__law_pick f fd) (T : Txt K mg c) : FnOk P w K mg base CX0 1 f fd ["_law_tape_here", "_law_many"] sp_pick := by
  refine F.okw sc__law_pick (fun vs H Q E h => ?_) (fun cdv A outer s H vs Q E hr h => ?_)
  · unfold sp_pick at h
    obtain ⟨p, n, m, rfl, _⟩ := h
    rfl
  · unfold sp_pick at h
    obtain ⟨p, n, m, rfl, F, hm, hb, k⟩ := h
    obtain ⟨c, l, t, hp, h0, h1, h2⟩ := F.ex
    refine ⟨_, (wss_cons (ws_set (i := 2) sc__law_pick.nd rfl (Or.inl rfl) (we_op op_add (we_dget hr.u1 (we_v 0) we_str) we_int))
      (wss_cons (ws_dput hr.u1 (we_v 0) we_str (we_v 2))
      (wss_cons (ws_if (wt_cmp op_gt (we_dget hr.u1 (we_v 0) we_str) we_int (nomark _)) (wss_cons (ws_set (i := 3) sc__law_pick.nd rfl (Or.inl rfl) (we_op op_mod (we_dget hr.u1 (we_v 0) we_str) (we_v 1)))
      (wss_cons (ws_dput hr.u1 (we_v 0) we_str (we_op op_fdivB (we_dget hr.u1 (we_v 0) we_str) (we_v 1)))
      (wss_one (ws_ret (we_v 3))))) wss_nil)
      (wss_cons (ws_set (i := 4) sc__law_pick.nd rfl (Or.inl rfl) (we_op op_mulB (we_op op_add (we_op op_add (we_op op_mod (we_dget hr.u1 (we_v 0) we_str) we_int) (we_op op_mulB (we_op op_mulB we_int (we_v 2)) (we_v 2))) we_int) we_int))
      (wss_cons (ws_set (i := 4) sc__law_pick.nd rfl (Or.inl rfl) (we_op op_mulB (we_op op_add (we_op op_mod (we_v 4) we_int) (we_op op_mulB we_int (we_v 2))) we_int))
      (wss_one (ws_ret (we_op op_mod (we_op op_fdivB (we_op op_mod (we_v 4) we_int) we_int) (we_v 1))))))))), ?_⟩
    refine ⟨_, rfl, ?_⟩
    refine dgS hp rfl ?_
    refine ⟨_, _, rfl, rfl, ?_⟩
    refine ⟨_, rfl, _, rfl, ?_⟩
    refine dpS (kvs2 := tpD c l (t + 1)) hp (by show 3 ≤ 64; decide) rfl fun H1 hp1 s1 => ?_
    refine ⟨_, rfl, ?_⟩
    refine dgS hp1 rfl ?_
    refine ⟨_, _, rfl, rfl, _, rfl, ?_⟩
    refine iteD (fun e0 => ?_) (fun e0 => ?_)
    · refine ⟨_, rfl, ?_⟩
      refine dgS hp1 rfl ?_
      refine ⟨_, rfl, _, _, rfl, rfl, hm, ?_⟩
      refine ⟨_, rfl, ?_⟩
      refine dgS hp1 rfl ?_
      refine ⟨_, rfl, _, _, rfl, rfl, ⟨hm, Nat.le_trans hb (by decide)⟩, ?_⟩
      refine ⟨_, rfl, ?_⟩
      refine dpS (kvs2 := tpD c (l / m) (t + 1)) hp1 (by show 3 ≤ 64; decide) rfl fun H2 hp2 s2 => ?_
      refine ⟨_, rfl, ?_⟩
      exact k _ H2 (Int.emod_nonneg _ (by (first | lia | omega))) (Int.emod_lt_of_pos _ hm) ⟨c, l / m, t + 1, hp2, Int.ediv_nonneg h0 (by (first | lia | omega)), by (first | lia | omega), by (first | lia | omega)⟩ (s1.trans s2)
    · have bt : bits (t + 1) ≤ 64 := PySem.intBits_le_64 (by (first | lia | omega)) (by (first | lia | omega))
      refine ⟨_, rfl, ?_⟩
      refine dgS hp1 rfl ?_
      have c0 := Int.emod_nonneg c (b := 2147483647) (by decide)
      have c1 := Int.emod_lt_of_pos c (b := 2147483647) (by decide)
      refine ⟨_, _, rfl, rfl, (by show (0 : Int) < 2147483647; decide), ?_⟩
      refine ⟨_, rfl, _, _, rfl, rfl, IntMulOk.of_left (by decide +kernel), _, rfl, _, _, rfl, rfl, IntMulOk.of_right bt, _, _, rfl, rfl, _, _, rfl, rfl, _, _, rfl, rfl, IntMulOk.of_right (by decide +kernel), ?_⟩
      generalize hz : (c % 2147483647 + 31 * (t + 1) * (t + 1) + 1) * 48271 = z
      refine ⟨_, rfl, _, _, rfl, rfl, (by show (0 : Int) < 2147483629; decide), _, rfl, _, _, rfl, rfl, IntMulOk.of_left (by decide +kernel), _, _, rfl, rfl, _, _, rfl, rfl, IntMulOk.of_right (by decide +kernel), ?_⟩
      generalize hy : (z % 2147483629 + 7 * (t + 1)) * 69621 = y
      refine ⟨_, rfl, _, _, rfl, rfl, (by show (0 : Int) < 2147483587; decide), _, _, rfl, rfl, ⟨by decide, by decide +kernel⟩, _, rfl, _, _, rfl, rfl, hm, ?_⟩
      exact k _ H1 (Int.emod_nonneg _ (by (first | lia | omega))) (Int.emod_lt_of_pos _ hm) ⟨c, l, t + 1, hp1, h0, by (first | lia | omega), by (first | lia | omega)⟩ s1
end
/-! ### fractions as data -/
abbrev frD (f : Fr) : PyData := .tuple [.int f.1, .int f.2]
theorem frD_at {H : Hp} {f : Fr} {v : V} (h : Rep H (frD f) v) : ∃ a, v = .ref a ∧ H a = some (.tup [.int f.1, .int f.2]) := by
  unfold Rep RepL RepL RepL at h
  obtain ⟨a, _, rfl, h1, x, _, rfl, r1, y, _, rfl, r2, rfl⟩ := h
  cases (show x = V.int f.1 from r1)
  cases (show y = V.int f.2 from r2)
  exact ⟨a, rfl, h1⟩
theorem frD_of {H : Hp} {f : Fr} {a : Addr} (h : H a = some (.tup [.int f.1, .int f.2])) : Rep H (frD f) (.ref a) := Rep.tup h (RepL.cons (Rep.int _) (RepL.cons (Rep.int _) RepL.nil))
theorem frD_flat (f : Fr) : flatD (frD f) = true := rfl
def Szf (k : Nat) (f : Fr) : Prop := f.1.natAbs < 2 ^ k ∧ f.2.natAbs < 2 ^ k
/-- a new fraction -/
def NewF (H : Hp) (Q : VK) (f : Fr) : Prop := ∀ q H', H q = none → H' q = some (.tup [.int f.1, .int f.2]) → Same H H' → Q (.ref q) H'
theorem gcd_le {n d : Int} (h : 0 < d) : (Int.gcd n d : Int) ≤ d := Int.le_of_dvd h (Int.gcd_dvd_right n d)
theorem gcd_sz {n d : Int} {k : Nat} (h : 0 < d) (z : d.natAbs < 2 ^ k) : (Int.gcd n d : Int).natAbs < 2 ^ k := by
  have := gcd_le (n := n) h
  have := gcd_pos (n := n) h
  (first | lia | omega)
theorem divOk {n d : Int} (h : 0 < d) (z : d.natAbs < 2 ^ 9000) : CDivB n d := ⟨h, bitsOf z⟩
/-! ### what the law draws: shares, says -/
abbrev shD (fs : List Fr) : PyData := .tuple (fs.map frD)
theorem frs_flat : ∀ fs : List Fr, flatDs (fs.map frD) = true
  | [] => rfl
  | f :: fs => by show (flatD (frD f) && flatDs (fs.map frD)) = true; rw [frs_flat fs]; rfl
theorem shD_flat (fs : List Fr) : flatD (shD fs) = true := frs_flat fs
/-- shares of so many parts -/
structure SyOk (n : Nat) (fs : List Fr) : Prop where
  ex : ∃ ns : List Int, ns.length = n ∧ (∀ x ∈ ns, 0 ≤ x ∧ x ≤ 7) ∧ 0 < ns.sum ∧ fs = ns.map fun x => lw x ns.sum
theorem sum_le7 : ∀ {ns : List Int}, (∀ x ∈ ns, 0 ≤ x ∧ x ≤ 7) → 0 ≤ ns.sum ∧ ns.sum ≤ 7 * (ns.length : Int)
  | [], _ => by simp
  | n :: ns, h => by
    have h1 := sum_le7 (ns := ns) fun x hx => h x (List.mem_cons_of_mem _ hx)
    have h2 := h n (List.mem_cons_self ..)
    rw [List.sum_cons, List.length_cons]
    (first | lia | omega)
theorem sum_pos {ns : List Int} (h : ∀ x ∈ ns, 0 ≤ x ∧ x ≤ 7) {n : Int} (hn : n ∈ ns) (p : 0 < n) : 0 < ns.sum := by
  induction ns with
  | nil => cases hn
  | cons a r ih =>
    have h1 := sum_le7 (ns := r) fun x hx => h x (List.mem_cons_of_mem _ hx)
    have h2 := h a (List.mem_cons_self ..)
    rw [List.sum_cons]
    rcases List.mem_cons.mp hn with rfl | hr
    · (first | lia | omega)
    · have := ih (fun x hx => h x (List.mem_cons_of_mem _ hx)) hr
      (first | lia | omega)
theorem SyOk.len {n : Nat} {fs : List Fr} (h : SyOk n fs) : fs.length = n := by
  obtain ⟨ns, h1, _, _, rfl⟩ := h.ex
  rw [List.length_map, h1]
/-- nought ahead -/
theorem SyOk.zero {n : Nat} {fs : List Fr} (h : SyOk n fs) : SyOk (1 + n) ((0, 1) :: fs) := by
  obtain ⟨ns, h1, h2, h3, rfl⟩ := h.ex
  refine ⟨0 :: ns, by rw [List.length_cons]; (first | lia | omega), fun x hx => ?_, by rw [List.sum_cons]; (first | lia | omega), ?_⟩
  · rcases List.mem_cons.mp hx with rfl | hx
    · (first | lia | omega)
    · exact h2 x hx
  · rw [List.sum_cons, List.map_cons, Int.zero_add]
    have : lw 0 ns.sum = (0, 1) := by
      unfold lw
      rw [Int.gcd_zero_left]
      have hn : ((ns.sum.natAbs : Nat) : Int) = ns.sum := by (first | lia | omega)
      rw [hn, Int.zero_ediv, Int.ediv_self (by (first | lia | omega))]
    rw [this]
def ind (p : Nat) (n : Nat) : List Int := (List.range n).map fun k : Nat => if (k : Int) = (p : Int) then 1 else 0
theorem ind_len (p n : Nat) : (ind p n).length = n := by unfold ind; rw [List.length_map, List.length_range]
theorem ind_mem {p n : Nat} : ∀ x ∈ ind p n, 0 ≤ x ∧ x ≤ 1 := fun x hx => by
  unfold ind at hx
  obtain ⟨k, _, rfl⟩ := List.mem_map.mp hx
  split <;> (first | lia | omega)
theorem ind_sum (p : Nat) : ∀ n : Nat, (ind p n).sum = if p < n then 1 else 0
  | 0 => by simp [ind]
  | n + 1 => by
    have ih := ind_sum p n
    have e : ind p (n + 1) = ind p n ++ [if (n : Int) = (p : Int) then 1 else 0] := by
      unfold ind; rw [List.range_succ, List.map_append]; rfl
    rw [e, List.sum_append, ih, List.sum_singleton]
    by_cases h : p < n
    · rw [if_pos h, if_neg (by (first | lia | omega)), if_pos (by (first | lia | omega))]; rfl
    · rw [if_neg h]
      by_cases h2 : p = n
      · subst h2; rw [if_pos rfl, if_pos (by (first | lia | omega))]; rfl
      · rw [if_neg (by (first | lia | omega)), if_neg (by (first | lia | omega))]; rfl
theorem lw_1 (x : Int) : lw x 1 = (x, 1) := by
  unfold lw
  rw [Int.gcd_one_right]
  simp
theorem SyOk.one {p n : Nat} (h : p < n) : SyOk n ((ind p n).map fun x => (x, 1)) := by
  have e := ind_sum p n
  rw [if_pos h] at e
  refine ⟨ind p n, ind_len p n, fun x hx => ?_, by (first | lia | omega), ?_⟩
  · have := ind_mem x hx; (first | lia | omega)
  · rw [e]; exact List.map_congr_left fun x _ => (lw_1 x).symm
@[irreducible] def sp_lfrac : Sp := fun vs H Q _ => ∃ n d : Int, vs = [.int n, .int d] ∧ 0 < d ∧ d.natAbs < 2 ^ 9000 ∧ NewF H Q (lw n d)
theorem sp_lfrac_i {H : Hp} {Q : VK} {E : XK} {n d : Int} (h : 0 < d) (z : d.natAbs < 2 ^ 9000) (q : NewF H Q (lw n d)) : sp_lfrac [.int n, .int d] H Q E := by unfold sp_lfrac; exact ⟨n, d, rfl, h, z, q⟩
@[irreducible] def sp_shares : Sp := fun vs H Q _ => ∃ (p : Addr) (n m : Nat), vs = [.ref p, .int (m : Int)] ∧ TapeAt H p (n + 8) ∧ 0 < m ∧ m ≤ 5 ∧ ∀ v fs H', TapeAt H' p n → SameBut p H H' → Rep H' (shD fs) v → SyOk m fs → Q v H'
theorem sp_shares_i {H : Hp} {Q : VK} {E : XK} {p : Addr} {n m : Nat} (F : TapeAt H p (n + 8)) (m0 : 0 < m) (m5 : m ≤ 5) (k : ∀ v fs H', TapeAt H' p n → SameBut p H H' → Rep H' (shD fs) v → SyOk m fs → Q v H') : sp_shares [.ref p, .int (m : Int)] H Q E := by
  unfold sp_shares; exact ⟨p, n, m, rfl, F, m0, m5, k⟩
theorem repN {H : Hp} {Q : VK} {l : Addr} {z : V} {k : Nat} (h : H l = some (.lst [z])) (hk : k ≤ 64) (q : ∀ c H', H c = none → H' c = some (.lst (List.replicate k z)) → Same H H' → Q (.ref c) H') : rRep (.ref l) (.int (k : Int)) H Q := by
  refine ⟨l, k, [z], rfl, rfl, h, by (first | lia | omega), by (first | lia | omega), ?_, fun p hp => ?_⟩
  · show 1 * ((k : Int)).toNat ≤ sizeLine
    rw [Nat.one_mul, Int.toNat_natCast]; exact small64 hk
  · rw [Int.toNat_natCast]
    have e : ∀ k : Nat, (List.replicate k [z]).flatten = List.replicate k z := fun k => by
      induction k with
      | zero => rfl
      | succ k ih => rw [List.replicate_succ, List.flatten_cons, ih, List.replicate_succ]; rfl
    rw [e]
    exact q p _ hp upd_same (Same.upd hp)
theorem mem_setZ {k : Nat} {b : Nat} (hb : b < k) : (∀ x ∈ (List.replicate k (0 : Int)).set b 1, 0 ≤ x ∧ x ≤ 7) ∧ 0 < ((List.replicate k (0 : Int)).set b 1).sum := by
  have h1 : ∀ x ∈ (List.replicate k (0 : Int)).set b 1, 0 ≤ x ∧ x ≤ 7 := fun x hx => by
    rcases List.mem_or_eq_of_mem_set hx with h | rfl
    · have := List.eq_of_mem_replicate h; (first | lia | omega)
    · (first | lia | omega)
  exact ⟨h1, sum_pos h1 (n := 1) (List.mem_iff_getElem?.mpr ⟨b, by rw [List.getElem?_set_self (by simpa using hb)]⟩) (by decide)⟩
section
variable {P : Program} {w : World} {K : PySem.W.Frag} {mg : Str → Option Value} {base : Heap} {c : Cl}
theorem ok__law_frac {f : Addr} {fd : FuncData} (F : Fun K "_law_frac" "_law_frac" s__law_frac f fd) (T : Txt K mg c) : FnOk P w K mg base CX0 1 f fd ["_law_n", "_law_d"] sp_lfrac := by
  refine F.okw sc__law_frac (fun vs H Q E h => ?_) (fun cdv A outer s H vs Q E hr h => ?_)
  · unfold sp_lfrac at h
    obtain ⟨n, d, rfl, _⟩ := h
    rfl
  · unfold sp_lfrac at h
    obtain ⟨n, d, rfl, hd, hz, q⟩ := h
    refine ⟨_, (wss_cons (ws_set (i := 2) sc__law_frac.nd rfl (Or.inl rfl) (we_cB cl_abs (by rfl) T.b_abs (by decide +kernel) (wa_k (we_v 0) wa_nil)))
      (wss_cons (ws_set (i := 3) sc__law_frac.nd rfl (Or.inl rfl) (we_v 1))
      (wss_cons (ws_while PassesOwn.never (wt_cmp op_gt (we_v 3) we_int (nomark _)) (wss_one (ws_par (i := 2) (j := 3) rfl sc__law_frac.nd rfl rfl (by decide) rfl rfl (wa_k (we_v 3) (wa_k (we_op op_mod (we_v 2) (we_v 3)) wa_nil)) rfl)))
      (wss_one (ws_ret (we_tup (wa_k (we_op op_fdivB (we_v 0) (we_v 2)) (wa_k (we_op op_fdivB (we_v 1) (we_v 2)) wa_nil)))))))), ?_⟩
    refine ⟨_, rfl, ?_⟩
    refine raI ?_
    refine ⟨_, rfl, ?_⟩
    refine while_r (fun m σ H' => ∃ (u v : Int), σ = [some (.int n), some (.int d), some (.int u), some (.int v)] ∧ 0 ≤ v ∧ Int.gcd u v = Int.gcd n d ∧ (v = 0 → 0 < u) ∧ H' = H ∧ m = v.toNat)
      (fun σ H' => σ = [some (.int n), some (.int d), some (.int (Int.gcd n d)), some (.int 0)] ∧ H' = H)
      _ ⟨(n.natAbs : Int), d, rfl, by (first | lia | omega), by rw [Int.gcd_eq_natAbs_gcd_natAbs, Int.gcd_eq_natAbs_gcd_natAbs, Int.natAbs_natCast], by (first | lia | omega), rfl, rfl⟩ ?_ ?_
    · rintro m σ H2 ⟨u, v, rfl, hb, hg, h0, rfl, rfl⟩
      refine ⟨_, rfl, _, _, rfl, rfl, _, rfl, ?_⟩
      refine iteD (fun e => ?_) (fun e => ?_)
      · refine ⟨_, rfl, _, rfl, _, rfl, _, _, rfl, rfl, e, _, _, rfl, ?_⟩
        have e1 := Int.emod_lt_of_pos u e
        have e2 := Int.emod_nonneg u (b := v) (by (first | lia | omega))
        exact ⟨_, by (first | lia | omega), v, u % v, rfl, e2, by rw [gcd_step, hg], fun _ => e, rfl, rfl⟩
      · have hb0 : v = 0 := by (first | lia | omega)
        subst hb0
        have hu := h0 rfl
        have e1 := gcd_end hu
        rw [hg] at e1
        rw [e1]
        exact ⟨rfl, rfl⟩
    · rintro σ H2 ⟨rfl, rfl⟩
      have hg := gcd_pos (n := n) hd
      have zg : CDivB n (Int.gcd n d : Int) := divOk hg (gcd_sz hd hz)
      refine ⟨_, rfl, _, rfl, _, _, rfl, rfl, zg, ?_⟩
      refine ⟨_, rfl, _, rfl, _, _, rfl, rfl, zg, ?_⟩
      refine nwT (by show 2 ≤ 64; decide) fun p H3 hp e3 s3 => ?_
      exact q p H3 hp e3 s3
set_option maxHeartbeats 4000000 in
theorem ok__law_shares {f : Addr} {fd : FuncData} (F : Fun K "_law_shares" "_law_shares" s__law_shares f fd) (T : Txt K mg c)
    (F__law_pick : FnC CX0 P w K mg base 1 "_law_pick" ["_law_tape_here", "_law_many"] sp_pick) (F__law_frac : FnC CX0 P w K mg base 1 "_law_frac" ["_law_n", "_law_d"] sp_lfrac) : FnOk P w K mg base CX0 2 f fd ["_law_tape_here", "_law_many"] sp_shares := by
  refine F.okw sc__law_shares (fun vs H Q E h => ?_) (fun cdv A outer s H vs Q E hr h => ?_)
  · unfold sp_shares at h
    obtain ⟨p, n, m, rfl, _⟩ := h
    rfl
  · unfold sp_shares at h
    obtain ⟨p, n, m, rfl, F, m0, m5, k⟩ := h
    refine ⟨_, (wss_cons (ws_set (i := 2) sc__law_shares.nd rfl (Or.inr rfl) (we_comp (CScope.of (psc := defScope s__law_shares) (N := ["_law_tape_here", "_law_many", "_law_parts"]) (N' := ["_law_k", "_law_tape_here"]) (js := [0]) (by decide +kernel) rfl rfl rfl) (wi_range1 rfl T.b_range (wa_k (we_v 1) wa_nil)) (fun _ _ _ _ => wts_nil) (fun _ _ _ _ => (we_ix (ix_seqK K) (we_lst (wa_k we_int (wa_k we_int (wa_k we_int (wa_k we_int (wa_k we_int (wa_k we_int wa_nil))))))) (we_fn F__law_pick (hr.mono (by decide)) (wa_k (we_v 1) (wa_k we_int wa_nil))) (fun _ _ => rfl)))))
      (wss_cons (ws_cut (ws_if (wt_mono (wt_w (ww_or (wt_cmp op_eq (we_cB (cl_sum rfl) (by rfl) T.b_sum (by decide +kernel) (wa_k (we_v 2) wa_nil)) we_int (nomark _)) (ww_or1 (wt_cmp op_eq (we_fn F__law_pick (hr.mono (by decide)) (wa_k (we_v 0) (wa_k we_int wa_nil))) we_int (nomark _)))))) (wss_cons (ws_set (i := 2) sc__law_shares.nd rfl (Or.inr rfl) (we_op op_rep (we_lst (wa_k we_int wa_nil)) (we_v 1)))
      (wss_one (ws_asg we_int (wg_sub (we_v 2) (we_fn F__law_pick (hr.mono (by decide)) (wa_k (we_v 0) (wa_k (we_v 1) wa_nil))) set_list)))) wss_nil))
      (wss_one (ws_ret (we_cT call_tuple_of (by rfl) T.b_tuple (by decide +kernel) (wa_k (we_comp (CScope.of (psc := defScope s__law_shares) (N := ["_law_tape_here", "_law_many", "_law_parts"]) (N' := ["_law_part", "_law_parts"]) (js := [2]) (by decide +kernel) rfl rfl rfl) (wi_list (we_v 2)) (fun _ _ _ _ => wts_nil) (fun _ _ _ _ => (we_fn F__law_frac (hr.mono (by decide)) (wa_k (we_v 0) (wa_k (we_cB (cl_sumK K rfl) (by rfl) T.b_sum (by decide +kernel) (wa_k (we_v 1) wa_nil)) wa_nil))))) wa_nil)))))), ?_⟩
    refine ⟨_, rfl, _, rfl, by (first | lia | omega), by (first | lia | omega), ?_⟩
    refine comp_tpR (TapeAt.like (n := n) fun i => n + 8 - i) F (fun _ y _ => ∃ x, y = .int x ∧ 0 ≤ x ∧ x ≤ 7) (fun _ _ _ _ _ h => h) (by (first | lia | omega)) (fun i H' Q' hi F' s' k' => ?_) (fun D ys H1 hD hD1 F1 s1 hy hr1 => ?_)
    · refine nwL (by show 6 ≤ 64; decide) fun q1 H2 hq1 e1 s1 => ?_
      refine ⟨_, rfl, ?_⟩
      refine sp_pick_i (n := n + 8 - (i + 1)) ((F'.same s1).less (by (first | lia | omega))) (by decide) (by decide +kernel) fun x H3 x0 x1 F3 s3 => ?_
      obtain ⟨v, hat, hmem, _⟩ := atI_mem (xs := [V.int 0, V.int 1, V.int 1, V.int 2, V.int 3, V.int 7]) x0 x1
      refine ixL (s3.at (F'.ne hq1) e1) hat ?_
      refine k' _ H3 F3 (s1.but.trans s3) ?_
      simp only [List.mem_cons, List.not_mem_nil, or_false] at hmem
      rcases hmem with rfl | rfl | rfl | rfl | rfl | rfl <;> exact ⟨_, rfl, by decide, by decide⟩
    · obtain ⟨ns, rfl, hn⟩ := ints_of (P := fun _ x => 0 ≤ x ∧ x ≤ 7) hr1
      rw [List.length_map] at hy
      have npD := F.ne hD
      have hn' : ∀ x ∈ ns, 0 ≤ x ∧ x ≤ 7 := fun x hx => by
        obtain ⟨i, hi⟩ := List.mem_iff_getElem?.mp hx
        exact hn i x hi
      refine ⟨fun σ H3 => ∃ (D : Addr) (ns : List Int), σ = [some (.ref p), some (.int (m : Int)), some (.ref D)] ∧ H3 D = some (.lst (ns.map V.int)) ∧ ns.length = m ∧ (∀ x ∈ ns, 0 ≤ x ∧ x ≤ 7) ∧ 0 < ns.sum ∧ TapeAt H3 p n ∧ SameBut p H H3, ?_, ?_⟩
      · clear hD hD1 hr1 hn hn' hy npD F1 s1
        rintro σ H3 ⟨D, ns, rfl, hD3, hl, hn, hS, F3, s3⟩
        refine ⟨_, rfl, D, rfl, ⟨_, SqL.of hD3⟩, ?_⟩
        have h35 := sum_le7 hn
        refine comp_mapL (fun i y H' => ∃ n, ns[i]? = some n ∧ Rep H' (frD (lw n ns.sum)) y) (fun i y H1 H2 s ⟨n, h1, h2⟩ => ⟨n, h1, h2.flat s (frD_flat _)⟩) (by rw [List.length_map]; (first | lia | omega)) hD3 (fun i x H' Q' hx s' k' => ?_) (fun D3 ys H8 hD3' hD8 s8 hy8 hr8 => ?_)
        · rw [List.getElem?_map] at hx
          obtain ⟨n', hn', rfl⟩ := (show ∃ n, ns[i]? = some n ∧ V.int n = x by
            cases q : ns[i]? with
            | none => rw [q] at hx; cases hx
            | some n => rw [q] at hx; cases hx; exact ⟨n, rfl, rfl⟩)
          refine ⟨_, rfl, _, rfl, ?_⟩
          refine rsI (SqL.of (s' _ _ hD3)) ?_
          refine sp_lfrac_i hS (Nat.lt_of_lt_of_le (show ns.sum.natAbs < 2 ^ 10 by show ns.sum.natAbs < 1024; (first | lia | omega)) (Nat.pow_le_pow_right (by decide) (by decide))) ?_
          intro q9 H9 hq9 e9 s9
          exact k' _ H9 s9 ⟨n', hn', frD_of e9⟩
        · refine ⟨D3, ys, rfl, .inl ⟨SqL.of hD8, fun l hl' => ?_⟩⟩
          have sl := Same.upd (o := .tup ys) hl'
          have el : (upd H8 l (.tup ys)) l = some (.tup ys) := upd_same
          generalize upd H8 l (.tup ys) = H9 at sl el
          refine k _ (ns.map fun n => lw n ns.sum) H9 ((F3.same s8).same sl) (s3.trans (s8.trans sl).but) (Rep.tup el ?_) ⟨ns, hl, hn, hS, rfl⟩
          refine RepL.ofIdx (by rw [hy8, List.length_map, List.length_map, List.length_map]) fun i y hi => ?_
          obtain ⟨n, h1, h2⟩ := hr8 i y hi
          exact ⟨frD (lw n ns.sum), by rw [List.getElem?_map, List.getElem?_map, h1]; rfl, h2.same sl⟩
      · refine ⟨fun b H4 => TapeAt H4 p (n + 1) ∧ SameBut p H H4 ∧ H4 D = some (.lst (ns.map V.int)) ∧ (b = false → 0 < ns.sum), ?_, ?_⟩
        · refine ⟨_, rfl, ?_⟩
          refine rsI (SqL.of hD1) ?_
          refine ⟨rfl, _, rfl, ?_⟩
          refine iteD (fun e0 => ?_) (fun e0 => ?_)
          · exact ⟨F1.less (by (first | lia | omega)), s1, hD1, fun h => by cases h⟩
          · refine ⟨_, rfl, ?_⟩
            refine sp_pick_i (n := n + 1) (F1.less (by (first | lia | omega))) (by decide) (by decide +kernel) fun x H2 x0 x1 F2 s2 => ?_
            refine ⟨rfl, _, rfl, F2, s1.trans s2, s2.at npD hD1, fun _ => ?_⟩
            have := (sum_le7 hn').1
            have : ns.sum ≠ 0 := fun h => e0 (congrArg V.int h)
            (first | lia | omega)
        · rintro b H2 ⟨F2, s2, hD2, hS⟩
          cases b with
          | false => exact iteF ⟨D, ns, rfl, hD2, by (first | lia | omega), hn', hS rfl, F2.less (by (first | lia | omega)), s2⟩
          | true =>
            refine iteT ?_
            refine nwL (by show 1 ≤ 64; decide) fun q1 H3 hq1 e1 s3 => ?_
            refine ⟨_, rfl, ?_⟩
            refine repN e1 (by (first | lia | omega)) fun q2 H4 hq2 e2 s4 => ?_
            have F4 := (F2.same s3).same s4
            have n2 : q2 ≠ p := (F2.same s3).ne hq2
            refine ⟨_, rfl, _, rfl, _, rfl, ?_⟩
            refine sp_pick_i F4 (by (first | lia | omega)) (bitsle (Nat.lt_of_le_of_lt (show ((m : Int)).natAbs ≤ 5 by (first | lia | omega)) (by decide))) fun x H5 x0 x1 F5 s5 => ?_
            obtain ⟨b, rfl⟩ : ∃ b : Nat, x = (b : Int) := ⟨x.toNat, by (first | lia | omega)⟩
            have hD5 := s5.at n2 e2
            have hj : ixN (List.replicate m (V.int 0)).length (b : Int) = some b := by
              unfold ixN
              rw [if_pos x0, if_pos (by rw [List.length_replicate]; (first | lia | omega))]; rfl
            refine stG hD5 hj fun H6 e6 s6 => ?_
            have e7 : (List.replicate m (V.int 0)).set b (V.int 1) = (((List.replicate m (0 : Int)).set b 1).map V.int) := by
              rw [List.map_set, List.map_replicate]
            have hm := mem_setZ (k := m) (b := b) (by (first | lia | omega))
            have h2 : H q2 = none := SameBut.free s2 F2.there (s3.free hq2)
            exact ⟨q2, (List.replicate m (0 : Int)).set b 1, rfl, by rw [e6, e7], by rw [List.length_set, List.length_replicate], hm.1, hm.2, F5.but s6 n2,
              SameBut.thru h2 ((s2.trans (s3.trans s4).but).trans s5) s6⟩
end
@[irreducible] def sp_says : Sp := fun vs H Q _ => ∃ (p : Addr) (n W : Nat) (st pl : Bool), vs = [.ref p, .int (W : Int), .bl st, .bl pl] ∧ TapeAt H p (n + 16) ∧ 2 ≤ W ∧ W ≤ 4 ∧ ∀ v fs H', TapeAt H' p n → SameBut p H H' → Rep H' (shD fs) v → SyOk (1 + W) fs → (st = true → fs.head? = some (0, 1)) → Q v H'
theorem sp_says_i {H : Hp} {Q : VK} {E : XK} {p : Addr} {n W : Nat} {st pl : Bool} (F : TapeAt H p (n + 16)) (h2 : 2 ≤ W) (h4 : W ≤ 4) (k : ∀ v fs H', TapeAt H' p n → SameBut p H H' → Rep H' (shD fs) v → SyOk (1 + W) fs → (st = true → fs.head? = some (0, 1)) → Q v H') : sp_says [.ref p, .int (W : Int), .bl st, .bl pl] H Q E := by
  unfold sp_says; exact ⟨p, n, W, st, pl, rfl, F, h2, h4, k⟩
theorem ind_head {p n : Nat} (hp : 0 < p) : ((ind p (1 + n)).map fun x => ((x, 1) : Fr)).head? = some (0, 1) := by
  unfold ind
  rw [Nat.add_comm, List.range_succ_eq_map, List.map_cons, List.map_cons, List.head?_cons, if_neg (by (first | lia | omega))]
theorem ind_at {p n i : Nat} (h : i < n) : (ind p n)[i]? = some (if (i : Int) = (p : Int) then 1 else 0) := by
  unfold ind
  rw [List.getElem?_map, List.getElem?_range h]; rfl
abbrev ctD (cs : List Int) : PyData := .tuple (cs.map .int)
theorem ints_flat : ∀ fs : List Int, flatDs (fs.map PyData.int) = true
  | [] => rfl
  | f :: fs => by show (flatD (.int f) && flatDs (fs.map PyData.int)) = true; rw [ints_flat fs]; rfl
theorem ctD_flat (cs : List Int) : flatD (ctD cs) = true := ints_flat cs
theorem RepL_ints {H : Hp} : ∀ {ns : List Int} {vs : List V}, RepL H (ns.map PyData.int) vs → vs = ns.map V.int
  | [], vs, h => by unfold RepL at h; exact h
  | n :: ns, vs, h => by
    unfold RepL at h
    obtain ⟨x, xs, rfl, h1, h2⟩ := h
    cases (show x = V.int n from h1)
    rw [RepL_ints h2]; rfl
theorem ctD_at {H : Hp} {cs : List Int} {v : V} (h : Rep H (ctD cs) v) : ∃ a, v = .ref a ∧ H a = some (.tup (cs.map V.int)) := by
  unfold Rep at h
  obtain ⟨a, xs, rfl, h1, h2⟩ := h
  cases RepL_ints h2
  exact ⟨a, rfl, h1⟩
theorem RepL.ofInts {H : Hp} : ∀ ns : List Int, RepL H (ns.map PyData.int) (ns.map V.int)
  | [] => RepL.nil
  | n :: ns => RepL.cons (Rep.int _) (RepL.ofInts ns)
theorem ctD_of {H : Hp} {cs : List Int} {a : Addr} (h : H a = some (.tup (cs.map V.int))) : Rep H (ctD cs) (.ref a) := Rep.tup h (RepL.ofInts cs)
structure SzOk (F W M : Nat) : Prop where
  w : 2 ≤ W ∧ W ≤ 4
  f : F = 2 ∧ M ≤ 4 ∨ F = 3 ∧ M ≤ 3 ∨ F = 4 ∧ M ≤ 2
section
variable {P : Program} {w : World} {K : PySem.W.Frag} {mg : Str → Option Value} {base : Heap} {c : Cl}
set_option maxHeartbeats 4000000 in
theorem ok__law_says {f : Addr} {fd : FuncData} (F : Fun K "_law_says" "_law_says" s__law_says f fd) (T : Txt K mg c)
    (F__law_pick : FnC CX0 P w K mg base 1 "_law_pick" ["_law_tape_here", "_law_many"] sp_pick) (F__law_shares : FnC CX0 P w K mg base 2 "_law_shares" ["_law_tape_here", "_law_many"] sp_shares) : FnOk P w K mg base CX0 3 f fd ["_law_tape_here", "_law_ways", "_law_stops", "_law_plain"] sp_says := by
  refine F.okw sc__law_says (fun vs H Q E h => ?_) (fun cdv A outer s H vs Q E hr h => ?_)
  · unfold sp_says at h
    obtain ⟨p, n, W, st, pl, rfl, _⟩ := h
    rfl
  · unfold sp_says at h
    obtain ⟨p, n, W, st, pl, rfl, F, W2, W4, k⟩ := h
    refine ⟨_, (wss_cons (ws_if (wt_mono (wt_w (ww_or (wt_val (we_v 3)) (ww_or1 (wt_cmp op_eq (we_fn F__law_pick (hr.mono (by decide)) (wa_k (we_v 0) (wa_k we_int wa_nil))) we_int (nomark _)))))) (wss_cons (ws_set (i := 4) sc__law_says.nd rfl (Or.inr rfl) (we_op op_add we_int (we_fn F__law_pick (hr.mono (by decide)) (wa_k (we_v 0) (wa_k (we_v 1) wa_nil)))))
      (wss_cons (ws_cut (ws_if (wt_mono (wt_w (ww_and (wt_not (wt_val (we_v 2))) (ww_and1 (wt_cmp op_gt (we_fn F__law_pick (hr.mono (by decide)) (wa_k (we_v 0) (wa_k we_int wa_nil))) we_int (nomark _)))))) (wss_one (ws_set (i := 4) sc__law_says.nd rfl (Or.inr rfl) we_int)) wss_nil))
      (wss_one (ws_ret (we_cT call_tuple_of (by rfl) T.b_tuple (by decide +kernel) (wa_k (we_comp (CScope.of (psc := defScope s__law_says) (N := ["_law_tape_here", "_law_ways", "_law_stops", "_law_plain", "_law_place_here"]) (N' := ["_law_k", "_law_place_here"]) (js := [4]) (by decide +kernel) rfl rfl rfl) (wi_range1 rfl T.b_range (wa_k (we_op op_add we_int (we_v 1)) wa_nil)) (fun _ _ _ _ => wts_nil) (fun _ _ _ _ => (we_tup (wa_k (we_cT call_int1 (by rfl) T.b_int (by decide +kernel) (wa_k (we_cmp op_eq (we_v 0) (we_v 1) (nomark _)) wa_nil)) (wa_k we_int wa_nil))))) wa_nil)))))) wss_nil)
      (wss_cons (ws_if (wt_val (we_v 2)) (wss_one (ws_ret (we_op (op_catU K) (we_tup (wa_k (we_tup (wa_k we_int (wa_k we_int wa_nil))) wa_nil)) (we_fn F__law_shares (hr.mono (by decide)) (wa_k (we_v 0) (wa_k (we_v 1) wa_nil)))))) wss_nil)
      (wss_one (ws_ret (we_fn F__law_shares (hr.mono (by decide)) (wa_k (we_v 0) (wa_k (we_op op_add we_int (we_v 1)) wa_nil))))))), ?_⟩
    refine ⟨fun b H1 => TapeAt H1 p (n + 15) ∧ SameBut p H H1, ?_, ?_⟩
    · refine ⟨_, rfl, _, rfl, ?_⟩
      cases pl with
      | true => exact iteT ⟨F.less (by (first | lia | omega)), (Same.refl _).but⟩
      | false =>
        refine iteF ?_
        refine ⟨_, rfl, ?_⟩
        refine sp_pick_i (n := n + 15) F (by decide) (by decide +kernel) fun x H2 x0 x1 F2 s2 => ?_
        exact ⟨rfl, _, rfl, F2, s2⟩
    · rintro b H1 ⟨F1, s1⟩
      cases b with
      | true =>
        refine iteT ?_
        refine ⟨_, rfl, _, rfl, ?_⟩
        refine sp_pick_i (n := n + 14) F1 (by (first | lia | omega)) (bitsle (Nat.lt_of_le_of_lt (show ((W : Int)).natAbs ≤ 5 by (first | lia | omega)) (by decide))) fun x H2 x0 x1 F2 s2 => ?_
        refine ⟨_, _, rfl, rfl, ?_⟩
        refine ⟨fun σ H3 => ∃ a : Nat, σ = [some (.ref p), some (.int (W : Int)), some (.bl st), some (.bl pl), some (.int (a : Int))] ∧ a < 1 + W ∧ (st = true → 0 < a) ∧ TapeAt H3 p n ∧ SameBut p H H3, ?_, ?_⟩
        · rintro σ H3 ⟨a, rfl, ha, hs, F3, s3⟩
          refine ⟨_, rfl, _, _, rfl, rfl, _, rfl, by (first | lia | omega), by (first | lia | omega), ?_⟩
          refine comp_mapR (fun i y H' => ∃ z, (ind a (1 + W))[i]? = some z ∧ Rep H' (frD (z, 1)) y) (fun i y H1 H2 s ⟨z, h1, h2⟩ => ⟨z, h1, h2.flat s (frD_flat _)⟩) (by (first | lia | omega)) (fun i H' Q' hi s' k' => ?_) (fun D ys H4 hD hD4 s4 hy4 hr4 => ?_)
          · refine ⟨_, rfl, _, rfl, rfl, ?_⟩
            refine .inr ⟨_, rfl, ?_⟩
            refine nwT (by show 2 ≤ 64; decide) fun q5 H5 hq5 e5 s5 => ?_
            refine k' _ H5 s5 ⟨_, ind_at (by (first | lia | omega)), ?_⟩
            refine frD_of (f := (if (i : Int) = (a : Int) then 1 else 0, 1)) ?_
            rw [e5, Int.zero_add]
            by_cases h : (i : Int) = (a : Int)
            · rw [if_pos h, if_pos (decide_eq_true (congrArg V.int h))]
            · rw [if_neg h, if_neg (by rw [decide_eq_true_eq]; exact fun z => h (by injection z))]
          · refine ⟨D, ys, rfl, .inl ⟨SqL.of hD4, fun l hl => ?_⟩⟩
            have sl := Same.upd (o := .tup ys) hl
            have el : (upd H4 l (.tup ys)) l = some (.tup ys) := upd_same
            generalize upd H4 l (.tup ys) = H5 at sl el
            refine k _ ((ind a (1 + W)).map fun x => (x, 1)) H5 ((F3.same s4).same sl) (s3.trans (s4.trans sl).but) (Rep.tup el ?_) (SyOk.one ha) (fun h => ind_head (hs h))
            refine RepL.ofIdx (by rw [hy4, List.length_map, List.length_map, ind_len]; (first | lia | omega)) fun i y hi => ?_
            obtain ⟨n, h1, h2⟩ := hr4 i y hi
            exact ⟨frD (n, 1), by rw [List.getElem?_map, List.getElem?_map, h1]; rfl, h2.same sl⟩
        · refine ⟨fun b H3 => TapeAt H3 p n ∧ SameBut p H H3 ∧ (b = true → st = false), ?_, ?_⟩
          · refine ⟨_, rfl, _, rfl, ?_⟩
            cases st with
            | true => exact iteF ⟨F2.less (by (first | lia | omega)), s1.trans s2, fun h => by cases h⟩
            | false =>
              refine iteT ?_
              refine ⟨_, rfl, ?_⟩
              refine sp_pick_i (n := n) (F2.less (by (first | lia | omega))) (by decide) (by decide +kernel) fun y H3 y0 y1 F3 s3 => ?_
              exact ⟨_, _, rfl, rfl, _, rfl, F3, (s1.trans s2).trans s3, fun _ => rfl⟩
          · rintro b H3 ⟨F3, s3, hb⟩
            cases b with
            | true =>
              refine iteT ?_
              exact ⟨0, rfl, by (first | lia | omega), (fun h => by rw [hb rfl] at h; cases h), F3, s3⟩
            | false =>
              refine iteF ?_
              exact ⟨(1 + x).toNat, by rw [show (((1 + x).toNat : Nat) : Int) = 1 + x by (first | lia | omega)]; rfl, by (first | lia | omega), fun _ => by (first | lia | omega), F3, s3⟩
      | false =>
        refine iteF ?_
        refine ⟨_, rfl, _, rfl, ?_⟩
        cases st with
        | true =>
          refine iteT ?_
          refine nwT (by show 2 ≤ 64; decide) fun q2 H2 hq2 e2 s2 => ?_
          refine nwT (by show 1 ≤ 64; decide) fun q3 H3 hq3 e3 s3 => ?_
          refine ⟨_, rfl, _, rfl, ?_⟩
          have n3 : q3 ≠ p := (F1.same s2).ne hq3
          have n2 : q2 ≠ p := F1.ne hq2
          refine sp_shares_i (n := n) (m := W) (((F1.same s2).same s3).less (by (first | lia | omega))) (by (first | lia | omega)) (by (first | lia | omega)) fun v fs H4 F4 s4 r4 ok4 => ?_
          obtain ⟨a, xs, rfl, ha, rxs⟩ := (by unfold Rep at r4; exact r4)
          have e4 := s4.at n3 e3
          have e5 := s4.at n2 (s3 _ _ e2)
          refine catU e4 ha (by rw [show ([V.ref q2] : List V).length = 1 from rfl, rxs.len, List.length_map, ok4.len]; (first | lia | omega)) fun c H5 s5 e6 => ?_
          refine k _ ((0, 1) :: fs) H5 (F4.same s5) (((s1.trans (s2.trans s3).but).trans s4).trans s5.but) (Rep.tup e6 (RepL.cons (frD_of (f := (0, 1)) (s5 _ _ e5)) (rxs.same s5))) ok4.zero (fun _ => rfl)
        | false =>
          refine iteF ?_
          refine ⟨_, rfl, _, rfl, _, _, rfl, rfl, ?_⟩
          have e1 : (1 + (W : Int)) = ((1 + W : Nat) : Int) := by (first | lia | omega)
          show sp_shares [.ref p, .int (1 + (W : Int))] _ _ _
          rw [e1]
          refine sp_shares_i (n := n) (m := 1 + W) (F1.less (by (first | lia | omega))) (by (first | lia | omega)) (by (first | lia | omega)) fun v fs H4 F4 s4 r4 ok4 => ?_
          exact k v fs H4 F4 (s1.trans s4) r4 ok4 (fun h => by cases h)
end
/-! ### counts with one more -/
def bump (cs : List Int) (i : Nat) : List Int := cs.take i ++ [cs.getD i 0 + 1] ++ cs.drop (i + 1)
def nexts (cs : List Int) (f : Fr) : List (List Int) := if f = (0, 1) then [] else (List.range cs.length).map (bump cs)
theorem RepL.atX {H : Hp} {α : Type} {g : α → PyData} {as : List α} {xs : List V} (r : RepL H (as.map g) xs) {i : Nat} {a : α} (h : as[i]? = some a) : ∃ x, xs[i]? = some x ∧ Rep H (g a) x := by
  induction as generalizing xs i with
  | nil => simp at h
  | cons b as ih =>
    rw [List.map_cons] at r
    unfold RepL at r
    obtain ⟨x, xs', rfl, r1, r2⟩ := r
    cases i with
    | zero => cases (show b = a by simpa using h); exact ⟨x, rfl, r1⟩
    | succ i => exact ih r2 (by simpa using h)
theorem shD_at {H : Hp} {fs : List Fr} {v : V} (h : Rep H (shD fs) v) : ∃ a xs, v = .ref a ∧ H a = some (.tup xs) ∧ RepL H (fs.map frD) xs := by
  unfold Rep at h; exact h
theorem slA_loE {K : PySem.W.Frag} {H : Hp} {a : Addr} {xs : List V} {k : Nat} {z : Int} {Q : VK} (hz : z = (k : Int)) (h : H a = some (.tup xs)) (q : ∀ c H', Same H H' → H' c = some (.tup (xs.drop k)) → Q (.ref c) H') : rSlA K (.ref a) (some z) none H Q := by
  subst hz; exact slA_lo h q
@[irreducible] def sp_next : Sp := fun vs H Q _ => ∃ (x y : V) (cs : List Int) (f : Fr) (fs : List Fr), vs = [x, y] ∧ Rep H (ctD cs) x ∧ Rep H (shD (f :: fs)) y ∧ cs.length ≤ 4 ∧ fs.length ≤ 4 ∧
  ∀ D ys H', H D = none → H' D = some (.lst ys) → RepL H' ((nexts cs f).map ctD) ys → Same H H' → Q (.ref D) H'
theorem sp_next_i {H : Hp} {Q : VK} {E : XK} {x y : V} {cs : List Int} {f : Fr} {fs : List Fr} (h1 : Rep H (ctD cs) x) (h2 : Rep H (shD (f :: fs)) y) (h3 : cs.length ≤ 4) (h4 : fs.length ≤ 4)
    (k : ∀ D ys H', H D = none → H' D = some (.lst ys) → RepL H' ((nexts cs f).map ctD) ys → Same H H' → Q (.ref D) H') : sp_next [x, y] H Q E := by
  unfold sp_next; exact ⟨x, y, cs, f, fs, rfl, h1, h2, h3, h4, k⟩
theorem eqv_int (x y : Int) : PyData.eqv (.int x) (.int y) = decide (x = y) := by
  show (x == y) = _
  rw [Bool.beq_eq_decide_eq]
theorem eqv_ints : ∀ a b : List Int, PyData.eqvAll (a.map PyData.int) (b.map PyData.int) = decide (a = b)
  | [], [] => by simp [PyData.eqvAll]
  | [], _ :: _ => by simp [PyData.eqvAll]
  | _ :: _, [] => by simp [PyData.eqvAll]
  | x :: a, y :: b => by
    have ih := eqv_ints a b
    rw [List.map_cons, List.map_cons]
    show (PyData.eqv (.int x) (.int y) && PyData.eqvAll _ _) = _
    rw [ih, eqv_int]
    by_cases h : x = y <;> by_cases h' : a = b <;> simp [h, h']
theorem eqv_ct (a b : List Int) : PyData.eqv (ctD a) (ctD b) = decide (a = b) := eqv_ints a b
theorem eqv_fr (f g : Fr) : PyData.eqv (frD f) (frD g) = decide (f = g) := by
  have h := eqv_ct [f.1, f.2] [g.1, g.2]
  refine (show PyData.eqv (frD f) (frD g) = _ from h).trans ?_
  obtain ⟨f1, f2⟩ := f
  obtain ⟨g1, g2⟩ := g
  simp
section
variable {P : Program} {w : World} {K : PySem.W.Frag} {mg : Str → Option Value} {base : Heap} {c : Cl}
set_option maxHeartbeats 4000000 in
theorem ok__law_next {f : Addr} {fd : FuncData} (F : Fun K "_law_next" "_law_next" s__law_next f fd) (T : Txt K mg c) : FnOk P w K mg base CX0 1 f fd ["_law_counts", "_law_says_here"] sp_next := by
  refine F.okw sc__law_next (fun vs H Q E h => ?_) (fun cdv A outer s H vs Q E hr h => ?_)
  · unfold sp_next at h
    obtain ⟨x, y, cs, f, fs, rfl, _⟩ := h
    rfl
  · unfold sp_next at h
    obtain ⟨x, y, cs, g, fs, rfl, rx, ry, h4, h5, k⟩ := h
    obtain ⟨a, rfl, ha⟩ := ctD_at rx
    obtain ⟨b, xs, rfl, hb, rxs⟩ := shD_at ry
    obtain ⟨z, hz, rz⟩ := RepL.atX (as := g :: fs) rxs (i := 0) (a := g) rfl
    refine ⟨_, (wss_cons (ws_if (wt_cmp (op_eqD hr.units) (we_ix ix_seq (we_v 1) we_int (fun _ _ => rfl)) (we_tup (wa_k we_int (wa_k we_int wa_nil))) (nomark _)) (wss_one (ws_ret (we_lst wa_nil))) wss_nil)
      (wss_one (ws_ret (we_comp (CScope.of (psc := defScope s__law_next) (N := ["_law_counts", "_law_says_here"]) (N' := ["_law_face", "_law_counts"]) (js := [0]) (by decide +kernel) rfl rfl rfl) (wi_range1 rfl T.b_range (wa_k (we_cB cl_len (by rfl) T.b_len (by decide +kernel) (wa_k (we_v 0) wa_nil)) wa_nil)) (fun _ _ _ _ => wts_nil) (fun _ _ _ _ => (we_op (op_catU K) (we_op (op_catU K) (we_slice (sl_tupA K) (we_v 1) wo_none (wo_some (we_v 0))) (we_tup (wa_k (we_op op_add (we_ix (ix_seqK K) (we_v 1) (we_v 0) (fun _ _ => rfl)) we_int) wa_nil))) (we_slice (sl_tupA K) (we_v 1) (wo_some (we_op op_add (we_v 0) we_int)) wo_none))))))), ?_⟩
    refine ⟨_, rfl, ?_⟩
    refine ixT hb (v := z) (by
      have := atI_nat (xs := xs) (j := 0) (v := z) hz
      exact this) ?_
    refine nwT (by show 2 ≤ 64; decide) fun q1 H1 hq1 e1 s1 => ?_
    have r1 : Rep H1 (frD (0, 1)) (.ref q1) := frD_of e1
    refine reD (rz.same s1) r1 rfl rfl ?_
    rw [eqv_fr]
    refine ⟨_, rfl, ?_⟩
    rw [Bool.true_beq]
    refine iteD (fun eg => ?_) (fun eg => ?_)
    · refine nwL (by show 0 ≤ 64; decide) fun q2 H2 hq2 e2 s2 => ?_
      refine k q2 [] H2 (s1.free hq2) e2 ?_ (s1.trans s2)
      unfold nexts
      rw [if_pos eg]
      exact RepL.nil
    · refine ⟨_, rfl, ?_⟩
      refine rlT (s1 _ _ ha) ?_
      rw [List.length_map]
      refine ⟨_, rfl, by (first | lia | omega), by (first | lia | omega), ?_⟩
      refine comp_mapR (fun i y H' => i < cs.length ∧ Rep H' (ctD (bump cs i)) y) (fun i y H1 H2 s ⟨h1, h2⟩ => ⟨h1, h2.flat s (ctD_flat _)⟩) (by (first | lia | omega)) (fun i H' Q' hi s' k' => ?_) (fun D ys H4 hD hD4 s4 hy4 hr4 => ?_)
      · rw [Int.zero_add]
        have hi' : i < cs.length := by (first | lia | omega)
        have ha' := s' _ _ (s1 _ _ ha)
        refine ⟨_, rfl, _, rfl, _, rfl, ?_⟩
        refine slA_hi ha' fun c2 H2 s2 e2 => ?_
        refine ⟨_, rfl, _, rfl, ?_⟩
        have hat : atI (cs.map V.int) (i : Int) = some (.int (cs.getD i 0)) := atI_nat (by rw [List.getElem?_map, List.getD_eq_getElem?_getD, List.getElem?_eq_getElem hi']; rfl)
        refine ixT (s2 _ _ ha') hat ?_
        refine ⟨_, _, rfl, rfl, ?_⟩
        refine nwT (by show 1 ≤ 64; decide) fun c3 H3 hc3 e3 s3 => ?_
        refine catU (s3 _ _ e2) e3 (by rw [List.length_take, List.length_map]; show min i cs.length + 1 ≤ 1000; (first | lia | omega)) fun c4 H4 s4 e4 => ?_
        refine ⟨_, rfl, _, rfl, _, _, rfl, rfl, ?_⟩
        refine ⟨_, rfl, ?_⟩
        refine slA_loE (k := i + 1) (by (first | lia | omega)) (s4 _ _ (s3 _ _ (s2 _ _ ha'))) fun c5 H5 s5 e5 => ?_
        refine catU (s5 _ _ e4) e5 (by rw [List.length_append, List.length_take, List.length_drop, List.length_map]; show min i cs.length + 1 + (cs.length - (i + 1)) ≤ 1000; (first | lia | omega)) fun c6 H6 s6 e6 => ?_
        refine k' _ H6 ((((s2.trans s3).trans s4).trans s5).trans s6) ⟨hi', ctD_of ?_⟩
        rw [e6]
        unfold bump
        rw [List.map_append, List.map_append, List.map_take, List.map_drop]
        rfl
      · refine k D ys H4 (s1.free hD) hD4 ?_ (s1.trans s4)
        unfold nexts
        rw [if_neg eg]
        refine RepL.ofIdx (by rw [hy4, List.length_map, List.length_map, List.length_range]; (first | lia | omega)) fun i y hi => ?_
        obtain ⟨h1, h2⟩ := hr4 i y hi
        exact ⟨ctD (bump cs i), by rw [List.getElem?_map, List.getElem?_map, List.getElem?_range h1]; rfl, h2⟩
end
/-! ### levels of counts -/
theorem nodup_len {α : Type} [DecidableEq α] : ∀ {l m : List α}, l.Nodup → (∀ x ∈ l, x ∈ m) → l.length ≤ m.length
  | [], m, _, _ => Nat.zero_le _
  | x :: l, m, h, hs => by
    rw [List.nodup_cons] at h
    have hx := hs x (List.mem_cons_self ..)
    have h1 := nodup_len (l := l) (m := m.erase x) h.2 fun y hy => (List.mem_erase_of_ne (fun e => by subst e; exact h.1 hy)).mpr (hs y (List.mem_cons_of_mem _ hy))
    rw [List.length_erase_of_mem hx] at h1
    have : 0 < m.length := List.length_pos_of_mem hx
    rw [List.length_cons]
    (first | lia | omega)
def allC : Nat → Nat → List (List Int)
  | 0, m => if m = 0 then [[]] else []
  | F + 1, m => (List.range (m + 1)).flatMap fun k => (allC F (m - k)).map fun c => ((k : Nat) : Int) :: c
theorem nn_sum : ∀ {c : List Int}, (∀ x ∈ c, 0 ≤ x) → 0 ≤ c.sum
  | [], _ => by simp
  | x :: c, h => by
    have h1 := nn_sum (c := c) fun y hy => h y (List.mem_cons_of_mem _ hy)
    have h2 := h x (List.mem_cons_self ..)
    rw [List.sum_cons]; (first | lia | omega)
theorem allC_mem : ∀ {F m : Nat} {c : List Int}, c.length = F → (∀ x ∈ c, 0 ≤ x) → c.sum = (m : Int) → c ∈ allC F m
  | 0, m, c, hl, _, hs => by
    cases c with
    | nil =>
      rw [List.sum_nil] at hs
      unfold allC
      rw [if_pos (by (first | lia | omega))]
      exact List.mem_cons_self ..
    | cons _ _ => simp at hl
  | F + 1, m, c, hl, hn, hs => by
    cases c with
    | nil => simp at hl
    | cons x c =>
      have h2 := hn x (List.mem_cons_self ..)
      have hn' : ∀ y ∈ c, 0 ≤ y := fun y hy => hn y (List.mem_cons_of_mem _ hy)
      have h1 := nn_sum hn'
      rw [List.sum_cons] at hs
      unfold allC
      refine List.mem_flatMap.mpr ⟨x.toNat, List.mem_range.mpr (by (first | lia | omega)), List.mem_map.mpr ⟨c, allC_mem (by simpa using hl) hn' (by (first | lia | omega)), ?_⟩⟩
      rw [show ((x.toNat : Nat) : Int) = x by (first | lia | omega)]
structure CtOk (F : Nat) (j : Nat) (c : List Int) : Prop where
  len : c.length = F
  nn : ∀ x ∈ c, 0 ≤ x
  sum : c.sum = (j : Int)
structure LvOk (F : Nat) (j : Nat) (cs : List (List Int)) : Prop where
  nd : cs.Nodup
  each : ∀ c ∈ cs, CtOk F j c
theorem lens_ok : (∀ m ≤ 4, (allC 2 m).length < 64) ∧ (∀ m ≤ 3, (allC 3 m).length < 64) ∧ (∀ m ≤ 2, (allC 4 m).length < 64) := by decide
theorem LvOk.few {F W M j : Nat} {cs : List (List Int)} (h : LvOk F j cs) (z : SzOk F W M) (hj : j ≤ M) : cs.length < 64 := by
  have h1 := nodup_len h.nd fun c hc => allC_mem (h.each c hc).len (h.each c hc).nn (h.each c hc).sum
  obtain ⟨l2, l3, l4⟩ := lens_ok
  rcases z.f with ⟨rfl, hM⟩ | ⟨rfl, hM⟩ | ⟨rfl, hM⟩
  · exact Nat.lt_of_le_of_lt h1 (l2 j (by (first | lia | omega)))
  · exact Nat.lt_of_le_of_lt h1 (l3 j (by (first | lia | omega)))
  · exact Nat.lt_of_le_of_lt h1 (l4 j (by (first | lia | omega)))
theorem bump_set {cs : List Int} {i : Nat} (h : i < cs.length) : bump cs i = cs.set i (cs.getD i 0 + 1) := by
  unfold bump
  rw [List.set_eq_take_append_cons_drop, if_pos h, List.append_assoc]; rfl
theorem bump_ok {F j : Nat} {c : List Int} (h : CtOk F j c) {i : Nat} (hi : i < c.length) : CtOk F (j + 1) (bump c i) := by
  have hg : c.getD i 0 ∈ c := by
    rw [List.getD_eq_getElem?_getD, List.getElem?_eq_getElem hi]; exact List.getElem_mem hi
  refine ⟨by rw [bump_set hi, List.length_set]; exact h.len, fun x hx => ?_, ?_⟩
  · rw [bump_set hi] at hx
    rcases List.mem_or_eq_of_mem_set hx with hx | rfl
    · exact h.nn x hx
    · have := h.nn _ hg; (first | lia | omega)
  · have e : c = c.take i ++ [c.getD i 0] ++ c.drop (i + 1) := by
      have e1 : c.getD i 0 = c[i] := by rw [List.getD_eq_getElem?_getD, List.getElem?_eq_getElem hi]; rfl
      rw [e1, List.append_assoc, List.singleton_append, ← List.drop_eq_getElem_cons hi, List.take_append_drop]
    have hs := h.sum
    have e2 : c.sum = (c.take i).sum + c.getD i 0 + (c.drop (i + 1)).sum := by
      conv => lhs; rw [e]
      rw [List.sum_append, List.sum_append, List.sum_singleton]
    unfold bump
    rw [List.sum_append, List.sum_append, List.sum_singleton]
    (first | lia | omega)
theorem bump_inj {c : List Int} {i k : Nat} (hi : i < c.length) (hk : k < c.length) (e : bump c i = bump c k) : i = k := by
  by_cases h : i = k
  · exact h
  · rw [bump_set hi, bump_set hk] at e
    have e1 := congrArg (fun l => l[i]?) e
    rw [List.getElem?_set_self (by simpa using hi), List.getElem?_set_ne (Ne.symm h), List.getElem?_eq_getElem hi, List.getD_eq_getElem?_getD, List.getElem?_eq_getElem hi] at e1
    injection e1 with e1
    exact absurd e1 (by show ¬ (c[i] + 1 = c[i]); (first | lia | omega))
theorem nodup_map_on {α β : Type} {f : α → β} : ∀ {l : List α}, l.Nodup → (∀ x ∈ l, ∀ y ∈ l, f x = f y → x = y) → (l.map f).Nodup
  | [], _, _ => List.nodup_nil
  | x :: l, h, k => by
    rw [List.nodup_cons] at h
    rw [List.map_cons, List.nodup_cons]
    refine ⟨fun hm => ?_, nodup_map_on h.2 fun a ha b hb => k a (List.mem_cons_of_mem _ ha) b (List.mem_cons_of_mem _ hb)⟩
    obtain ⟨y, hy, e⟩ := List.mem_map.mp hm
    have := k y (List.mem_cons_of_mem _ hy) x (List.mem_cons_self ..) e
    subst this
    exact h.1 hy
theorem nexts_ok {F j : Nat} {c : List Int} (h : CtOk F j c) (f : Fr) : LvOk F (j + 1) (nexts c f) := by
  unfold nexts
  split
  · exact ⟨List.nodup_nil, fun c hc => by cases hc⟩
  · refine ⟨nodup_map_on List.nodup_range fun x hx y hy e => bump_inj (by simpa using hx) (by simpa using hy) e, fun d hd => ?_⟩
    obtain ⟨i, hi, rfl⟩ := List.mem_map.mp hd
    exact bump_ok h (by simpa using hi)
theorem LvOk.more {F j : Nat} {ls ms : List (List Int)} (h1 : LvOk F j ls) (h2 : LvOk F j ms) : LvOk F j (ls ++ ms.filter fun c => !decide (c ∈ ls)) := by
  refine ⟨List.nodup_append.mpr ⟨h1.nd, h2.nd.filter _, fun a ha b hb e => ?_⟩, fun c hc => ?_⟩
  · subst e
    have := (List.mem_filter.mp hb).2
    simp [ha] at this
  · rcases List.mem_append.mp hc with hc | hc
    · exact h1.each c hc
    · exact h2.each c (List.mem_filter.mp hc).1
theorem LvOk.perm {F j : Nat} {ls ms : List (List Int)} (h : LvOk F j ls) (p : ms.Perm ls) : LvOk F j ms := ⟨p.nodup_iff.mpr h.nd, fun c hc => h.each c (p.mem_iff.mp hc)⟩
theorem perm_ix {α : Type} (d : α) {cs : List α} {ix : List Nat} (h : ix.Perm (List.range cs.length)) : (ix.map fun i => cs.getD i d).Perm cs := by
  have h1 := h.map fun i => cs.getD i d
  have e : (List.range cs.length).map (fun i => cs.getD i d) = cs := by
    apply List.ext_getElem?
    intro i
    rw [List.getElem?_map]
    by_cases hi : i < cs.length
    · rw [List.getElem?_range hi, List.getElem?_eq_getElem hi, Option.map_some, List.getD_eq_getElem?_getD, List.getElem?_eq_getElem hi]; rfl
    · rw [List.getElem?_eq_none (by simpa using hi), List.getElem?_eq_none (by (first | lia | omega))]; rfl
  rwa [e] at h1
abbrev Ent := List Int × List Fr
abbrev enD (e : Ent) : PyData := .tuple [ctD e.1, shD e.2]
abbrev ruD (es : List Ent) : PyData := .tuple (es.map enD)
theorem enD_flat (e : Ent) : flatD (enD e) = true := by
  show (flatD (ctD e.1) && (flatD (shD e.2) && true)) = true
  rw [ctD_flat, shD_flat]; rfl
/-- the share of looking on -/
def hd (fs : List Fr) : Fr := fs.headD (0, 1)
/-- entries, and the level that they come to: closed -/
structure Clo (F : Nat) (es : List Ent) (cs : List (List Int)) : Prop where
  fwd : ∀ e ∈ es, ∀ c ∈ nexts e.1 (hd e.2), c ∈ es.map (·.1) ∨ c ∈ cs
  bwd : ∀ c, c ∈ es.map (·.1) ∨ c ∈ cs → c = List.replicate F 0 ∨ ∃ e ∈ es, c ∈ nexts e.1 (hd e.2)
  zero : List.replicate F 0 ∈ es.map (·.1) ∨ List.replicate F 0 ∈ cs
/-- a level made of entries -/
def LvFrom (ls : List (List Int)) (ne : List Ent) : Prop := ∀ c, c ∈ ls ↔ ∃ e ∈ ne, c ∈ nexts e.1 (hd e.2)
theorem LvFrom.more {ls : List (List Int)} {ne : List Ent} {e : Ent} (h : LvFrom ls ne) : LvFrom (ls ++ (nexts e.1 (hd e.2)).filter fun c => !decide (c ∈ ls)) (ne ++ [e]) := fun c => by
  rw [List.mem_append, List.mem_filter]
  constructor
  · rintro (hl | ⟨hc, _⟩)
    · obtain ⟨a, ha, hc⟩ := (h c).mp hl
      exact ⟨a, List.mem_append_left _ ha, hc⟩
    · exact ⟨e, List.mem_append_right _ (List.mem_singleton.mpr rfl), hc⟩
  · rintro ⟨a, ha, hc⟩
    rcases List.mem_append.mp ha with ha | ha
    · exact .inl ((h c).mpr ⟨a, ha, hc⟩)
    · rw [List.mem_singleton] at ha
      subst ha
      by_cases hl : c ∈ ls
      · exact .inl hl
      · exact .inr ⟨hc, by simp [hl]⟩
theorem Clo.step {F : Nat} {es ne : List Ent} {cs cs2 ls : List (List Int)} (h : Clo F es cs) (hp : cs2.Perm cs) (hm : ne.map (·.1) = cs2) (hl : LvFrom ls ne) : Clo F (es ++ ne) ls := by
  have hk : ∀ c, c ∈ (es ++ ne).map (·.1) ↔ c ∈ es.map (·.1) ∨ c ∈ cs := fun c => by rw [List.map_append, List.mem_append, hm, hp.mem_iff]
  refine ⟨fun e he c hc => ?_, fun c hc => ?_, .inl ((hk _).mpr h.zero)⟩
  · rcases List.mem_append.mp he with he | he
    · exact .inl ((hk c).mpr (h.fwd e he c hc))
    · exact .inr ((hl c).mpr ⟨e, he, hc⟩)
  · rcases hc with hc | hc
    · rcases h.bwd c ((hk c).mp hc) with h0 | ⟨e, he, h1⟩
      · exact .inl h0
      · exact .inr ⟨e, List.mem_append_left _ he, h1⟩
    · obtain ⟨e, he, h1⟩ := (hl c).mp hc
      exact .inr ⟨e, List.mem_append_right _ he, h1⟩
/-- what a rule of the law's drawing is -/
structure RuOk (F W M : Nat) (es : List Ent) : Prop where
  ne : es ≠ []
  nd : (es.map (·.1)).Nodup
  each : ∀ e ∈ es, e.1.length = F ∧ (∀ x ∈ e.1, 0 ≤ x) ∧ e.1.sum ≤ (M : Int) ∧ SyOk (1 + W) e.2
  asc : (es.map fun e => e.1.sum).Pairwise (· ≤ ·)
  len : es.length ≤ 320
  clo : Clo F es []
/-- so far, all below j looks -/
structure RuTo (F W M j : Nat) (es : List Ent) : Prop where
  nd : (es.map (·.1)).Nodup
  each : ∀ e ∈ es, e.1.length = F ∧ (∀ x ∈ e.1, 0 ≤ x) ∧ e.1.sum < (j : Int) ∧ e.1.sum ≤ (M : Int) ∧ SyOk (1 + W) e.2
  asc : (es.map fun e => e.1.sum).Pairwise (· ≤ ·)
  len : es.length ≤ 64 * j
/-- within a level of j looks: of it the first ones, cs -/
structure RuIn (F W M j : Nat) (es0 es : List Ent) (cs : List (List Int)) : Prop where
  ex : ∃ ne : List Ent, es = es0 ++ ne ∧ ne.map (·.1) = cs ∧ ∀ e ∈ ne, SyOk (1 + W) e.2
theorem RuIn.done {F W M j : Nat} {es0 es : List Ent} {cs : List (List Int)} (h0 : RuTo F W M j es0) (h : RuIn F W M j es0 es cs) (l : LvOk F j cs) (hj : j ≤ M) (hl : cs.length ≤ 64) : RuTo F W M (j + 1) es := by
  obtain ⟨ne, rfl, hm, hs⟩ := h.ex
  have hin : ∀ e ∈ ne, CtOk F j e.1 := fun e he => l.each e.1 (hm ▸ List.mem_map_of_mem he)
  refine ⟨?_, fun e he => ?_, ?_, ?_⟩
  · rw [List.map_append]
    refine List.nodup_append.mpr ⟨h0.nd, hm ▸ l.nd, fun a ha b hb e => ?_⟩
    subst e
    obtain ⟨e1, m1, rfl⟩ := List.mem_map.mp ha
    have := (h0.each e1 m1).2.2.1
    rw [hm] at hb
    have := (l.each _ hb).sum
    (first | lia | omega)
  · rcases List.mem_append.mp he with he | he
    · obtain ⟨a1, a2, a3, a4, a5⟩ := h0.each e he
      exact ⟨a1, a2, by (first | lia | omega), a4, a5⟩
    · have c := hin e he
      have := c.sum
      exact ⟨c.len, c.nn, by (first | lia | omega), by (first | lia | omega), hs e he⟩
  · rw [List.map_append]
    refine List.pairwise_append.mpr ⟨h0.asc, ?_, fun a ha b hb => ?_⟩
    · have : ∀ x ∈ ne.map (fun e => e.1.sum), x = (j : Int) := fun x hx => by
        obtain ⟨e, he, rfl⟩ := List.mem_map.mp hx
        exact (hin e he).sum
      exact List.pairwise_of_forall_mem_list fun a ha b hb => by rw [this a ha, this b hb]; exact Int.le_refl _
    · obtain ⟨e1, m1, rfl⟩ := List.mem_map.mp ha
      obtain ⟨e2, m2, rfl⟩ := List.mem_map.mp hb
      have := (h0.each e1 m1).2.2.1
      have := (hin e2 m2).sum
      (first | lia | omega)
  · have hne : ne.length = cs.length := by rw [← hm, List.length_map]
    have := h0.len
    rw [List.length_append]
    (first | lia | omega)
theorem RuTo.rule {F W M j : Nat} {es : List Ent} (h : RuTo F W M j es) (hj : j ≤ 5) (hne : es ≠ []) (cl : Clo F es []) : RuOk F W M es :=
  ⟨hne, h.nd, fun e he => ⟨(h.each e he).1, (h.each e he).2.1, (h.each e he).2.2.2.1, (h.each e he).2.2.2.2⟩, h.asc, by have := h.len; (first | lia | omega), cl⟩
@[irreducible] def sp_rule : Sp := fun vs H Q _ => ∃ (p : Addr) (n F W M : Nat) (pl : Bool), vs = [.ref p, .int (F : Int), .int (W : Int), .int (M : Int), .bl pl] ∧ TapeAt H p (n + 8192) ∧ SzOk F W M ∧ ∀ v es H', TapeAt H' p n → SameBut p H H' → Rep H' (ruD es) v → RuOk F W M es → Q v H'
theorem sp_rule_i {H : Hp} {Q : VK} {E : XK} {p : Addr} {n F W M : Nat} {pl : Bool} (T : TapeAt H p (n + 8192)) (z : SzOk F W M) (k : ∀ v es H', TapeAt H' p n → SameBut p H H' → Rep H' (ruD es) v → RuOk F W M es → Q v H') : sp_rule [.ref p, .int (F : Int), .int (W : Int), .int (M : Int), .bl pl] H Q E := by
  unfold sp_rule; exact ⟨p, n, F, W, M, pl, rfl, T, z, k⟩
theorem cs_shaped (cs : List (List Int)) : SeqAt.shaped (.list (cs.map ctD)) = true := by
  have hl : ∀ cs : List (List Int), PyData.canLayAll0 (cs.map ctD) = true := fun cs => by
    induction cs with
    | nil => rfl
    | cons c cs ih =>
      show (PyData.canLay0 (ctD c) && PyData.canLayAll0 (cs.map ctD)) = true
      rw [ih, show PyData.canLay0 (ctD c) = PyData.canLayAll0 (c.map .int) from rfl, layIs]; rfl
  have hd : ∀ cs : List (List Int), PyData.depthAll (cs.map ctD) ≤ 2 := fun cs => by
    induction cs with
    | nil => show 0 ≤ 2; (first | lia | omega)
    | cons c cs ih =>
      show max (PyData.depth (ctD c)) (PyData.depthAll (cs.map ctD)) ≤ 2
      have := depIs c
      have : PyData.depth (ctD c) ≤ 2 := by simp only [PyData.depth]; (first | lia | omega)
      (first | lia | omega)
  unfold SeqAt.shaped
  rw [show PyData.canLay0 (.list (cs.map ctD)) = PyData.canLayAll0 (cs.map ctD) from rfl, hl, Bool.true_and, decide_eq_true_eq]
  have := hd cs
  simp only [PyData.depth]
  (first | lia | omega)
theorem eqv_nil (cs : List (List Int)) : PyData.eqv (.list (cs.map ctD)) (.list []) = decide (cs = []) := by
  cases cs with
  | nil => rfl
  | cons c cs => show PyData.eqvAll (ctD c :: cs.map ctD) [] = _; simp [PyData.eqvAll]
theorem cts_flat : ∀ cs : List (List Int), flatDs (cs.map ctD) = true
  | [] => rfl
  | c :: cs => by show (flatD (ctD c) && flatDs (cs.map ctD)) = true; rw [ctD_flat, cts_flat cs]; rfl
theorem ens_flat : ∀ es : List Ent, flatDs (es.map enD) = true
  | [] => rfl
  | e :: es => by show (flatD (enD e) && flatDs (es.map enD)) = true; rw [enD_flat, ens_flat es]; rfl
theorem repl_ix {H : Hp} {cs : List (List Int)} {ws : List V} (r : RepL H (cs.map ctD) ws) : ∀ ix : List Nat, (∀ i ∈ ix, i < cs.length) → RepL H ((ix.map fun i => cs.getD i []).map ctD) (ix.map fun i => ws.getD i .non)
  | [], _ => RepL.nil
  | i :: ix, h => by
    have hi := h i (List.mem_cons_self ..)
    obtain ⟨x, hx, rx⟩ := RepL.atX r (i := i) (a := cs[i]) (by simp [hi])
    have e1 : cs.getD i [] = cs[i] := by simp [hi]
    have e2 : ws.getD i .non = x := by rw [List.getD_eq_getElem?_getD, hx]; rfl
    refine RepL.cons ?_ (repl_ix r ix fun j hj => h j (List.mem_cons_of_mem _ hj))
    show Rep H (ctD (cs.getD i [])) (ws.getD i .non)
    rw [e1, e2]; exact rx
theorem RuIn.snoc {F W M j : Nat} {es0 es : List Ent} {cs : List (List Int)} {c : List Int} {fs : List Fr} (h : RuIn F W M j es0 es cs) (ok : SyOk (1 + W) fs) : RuIn F W M j es0 (es ++ [(c, fs)]) (cs ++ [c]) := by
  obtain ⟨ne, rfl, hm, hs⟩ := h.ex
  refine ⟨ne ++ [(c, fs)], by rw [List.append_assoc], by rw [List.map_append, hm]; rfl, fun e he => ?_⟩
  rcases List.mem_append.mp he with he | he
  · exact hs e he
  · rw [List.mem_singleton] at he; subst he; exact ok
theorem RuIn.len {F W M j : Nat} {es0 es : List Ent} {cs : List (List Int)} (h : RuIn F W M j es0 es cs) : es.length = es0.length + cs.length := by
  obtain ⟨ne, rfl, hm, hs⟩ := h.ex
  rw [List.length_append, ← hm, List.length_map]
section
variable {P : Program} {w : World} {K : PySem.W.Frag} {mg : Str → Option Value} {base : Heap} {c : Cl}
set_option maxHeartbeats 4000000 in
theorem ok__law_rule {f : Addr} {fd : FuncData} (F : Fun K "_law_rule" "_law_rule" s__law_rule f fd) (T : Txt K mg c)
    (F__law_says : FnC CX0 P w K mg base 3 "_law_says" ["_law_tape_here", "_law_ways", "_law_stops", "_law_plain"] sp_says) (F__law_next : FnC CX0 P w K mg base 1 "_law_next" ["_law_counts", "_law_says_here"] sp_next) : FnOk P w K mg base CX0 4 f fd ["_law_tape_here", "_law_faces", "_law_ways", "_law_most", "_law_plain"] sp_rule := by
  refine F.okw sc__law_rule (fun vs H Q E h => ?_) (fun cdv A outer s H vs Q E hr h => ?_)
  · unfold sp_rule at h
    obtain ⟨p, n, F, W, M, pl, rfl, _⟩ := h
    rfl
  · unfold sp_rule at h
    obtain ⟨p, n, F, W, M, pl, rfl, TP, Z, k⟩ := h
    refine ⟨_, (wss_cons (ws_set (i := 5) sc__law_rule.nd rfl (Or.inl rfl) (we_lst wa_nil))
      (wss_cons (ws_set (i := 6) sc__law_rule.nd rfl (Or.inl rfl) (we_lst (wa_k (we_op op_mulT (we_tup (wa_k we_int wa_nil)) (we_v 1)) wa_nil)))
      (wss_cons (ws_while PassesOwn.never (wt_cmp (op_neD hr.units) (we_v 6) (we_lst wa_nil) (nomark _)) (wss_cons (ws_set (i := 7) sc__law_rule.nd rfl (Or.inr rfl) (we_lst wa_nil))
      (wss_cons (ws_for PassesOwn.never rfl (wi_list (we_cB (cl_srt K) (by rfl) T.b_sorted (by decide +kernel) (wa_k (we_v 6) wa_nil))) (wg_name (i := 8) sc__law_rule.nd rfl (Or.inl rfl)) (wss_cons (ws_set (i := 9) sc__law_rule.nd rfl (Or.inl rfl) (we_fn F__law_says (hr.mono (by decide)) (wa_k (we_v 0) (wa_k (we_v 2) (wa_k (we_cmp op_eq (we_cB (cl_sumT K rfl) (by rfl) T.b_sum (by decide +kernel) (wa_k (we_v 8) wa_nil)) (we_v 3) (nomark _)) (wa_k (we_v 4) wa_nil))))))
      (wss_cons (ws_expr (we_bm PySem.F.plainAttrs_list PySem.F.slot_list_append PySem.F.type_list_append mt_app (we_v 5) (wa_k (we_tup (wa_k (we_v 8) (wa_k (we_v 9) wa_nil))) wa_nil)))
      (wss_one (ws_expr (we_bm PySem.F.plainAttrs_list PySem.F.slot_list_extend PySem.F.type_list_extend mt_ext (we_v 7) (wa_k (we_comp (CScope.of (psc := defScope s__law_rule) (N := ["_law_tape_here", "_law_faces", "_law_ways", "_law_most", "_law_plain", "_law_found", "_law_level", "_law_later", "_law_counts", "_law_says_here"]) (N' := ["_law_one", "_law_later"]) (js := [7]) (by decide +kernel) rfl rfl rfl) (wi_list (we_fn F__law_next (hr.mono (by decide)) (wa_k (we_v 8) (wa_k (we_v 9) wa_nil)))) (fun _ _ _ _ => wts_one (wt_cmp (op_notinT K hr.units) (we_v 0) (we_v 1) (by with_unfolding_all rfl))) (fun _ _ _ _ => (we_v 0))) wa_nil)))))))
      (wss_one (ws_set (i := 6) sc__law_rule.nd rfl (Or.inl rfl) (we_v 7))))))
      (wss_one (ws_ret (we_cT call_tuple_of (by rfl) T.b_tuple (by decide +kernel) (wa_k (we_v 5) wa_nil))))))), ?_⟩
    refine nwL (by show 0 ≤ 64; decide) fun fo H1 hfo e1 s1 => ?_
    refine nwT (by show 1 ≤ 64; decide) fun q2 H2 hq2 e2 s2 => ?_
    refine ⟨_, rfl, ?_⟩
    have hF : 2 ≤ F ∧ F ≤ 4 := by have := Z.f; (first | lia | omega)
    refine mulT e2 hF.1 (by (first | lia | omega)) fun q3 H3 s3 e3 => ?_
    refine nwL (by show 1 ≤ 64; decide) fun le H4 hle e4 s4 => ?_
    have nlf : fo ≠ p := TP.ne hfo
    have F4 := (((TP.same s1).same s2).same s3).same s4
    have S4 : SameBut p H H4 := ((((s1.trans s2).trans s3).trans s4)).but
    have rz : Rep H4 (ctD (List.replicate F 0)) (.ref q3) := ctD_of (by rw [s4 _ _ e3, List.map_replicate])
    have ok0 : CtOk F 0 (List.replicate F 0) := ⟨List.length_replicate, fun x hx => by have := List.eq_of_mem_replicate hx; (first | lia | omega), by
      have : ∀ k : Nat, (List.replicate k (0 : Int)).sum = 0 := fun k => by
        induction k with
        | zero => rfl
        | succ k ih => rw [List.replicate_succ, List.sum_cons, ih]; rfl
      rw [this]; rfl⟩
    have e1' := s4 _ _ (s3 _ _ (s2 _ _ e1))
    have hle0 : H le = none := ((s1.trans s2).trans s3).free hle
    have nlp : le ≠ p := TP.ne hle0
    have nfl : le ≠ fo := fun e => by subst e; rw [s3 _ _ (s2 _ _ e1)] at hle; cases hle
    refine while_r (fun m σ H' => ∃ (j : Nat) (le : Addr) (o7 o8 o9 : Option V) (vs ws : List V) (es : List Ent) (cs : List (List Int)), σ = [some (.ref p), some (.int (F : Int)), some (.int (W : Int)), some (.int (M : Int)), some (.bl pl), some (.ref fo), some (.ref le), o7, o8, o9] ∧
        m = 6 - j ∧ j ≤ M + 1 ∧ (j ≤ M ∨ cs = []) ∧ (j = 0 → cs ≠ []) ∧ (0 < j → es ≠ []) ∧ TapeAt H' p (n + 1024 * (6 - j)) ∧ SameBut p H H' ∧ H' fo = some (.lst vs) ∧ RepL H' (es.map enD) vs ∧ H' le = some (.lst ws) ∧ RepL H' (cs.map ctD) ws ∧ H le = none ∧ le ≠ fo ∧ LvOk F j cs ∧ RuTo F W M j es ∧ Clo F es cs)
      (fun σ H' => ∃ (le : Addr) (o7 o8 o9 : Option V) (vs : List V) (es : List Ent), σ = [some (.ref p), some (.int (F : Int)), some (.int (W : Int)), some (.int (M : Int)), some (.bl pl), some (.ref fo), some (.ref le), o7, o8, o9] ∧ TapeAt H' p n ∧ SameBut p H H' ∧ H' fo = some (.lst vs) ∧ RepL H' (es.map enD) vs ∧ RuOk F W M es)
      6 ⟨0, le, none, none, none, [], _, [], [List.replicate F 0], rfl, rfl, by (first | lia | omega), .inl (by (first | lia | omega)), fun _ h => by (cases h), fun h => by (first | lia | omega), F4.less (by (first | lia | omega)), S4, e1', RepL.nil, e4, RepL.cons rz RepL.nil, hle0, nfl, ⟨by simp, fun c hc => by (rw [List.mem_singleton] at hc; subst hc; exact ok0)⟩, ⟨List.nodup_nil, fun e he => by (cases he), List.Pairwise.nil, Nat.zero_le _⟩, ⟨fun e he => by (cases he), fun c hc => .inl (by simpa using hc), .inr (by simp)⟩⟩ ?_ ?_
    · clear e1 e2 e3 e4 s1 s2 s3 s4 F4 S4 rz ok0 e1' hle0 nlp nfl hle hq2
      rintro m σ H1 ⟨j, le, o7, o8, o9, vs, ws, es, cs, rfl, rfl, hj, hjc, hj0, hes, F1, S1, hfo1, rfo, hle1, rle, hle0, nfl, LV, RT, CL⟩
      have nlp : le ≠ p := TP.ne hle0
      refine ⟨_, rfl, ?_⟩
      refine nwL (by show 0 ≤ 64; decide) fun q5 H5 hq5 e5 s5 => ?_
      refine reD (Rep.lst (s5 _ _ hle1) (rle.same s5)) (Rep.lst e5 RepL.nil) (cs_shaped cs) rfl ?_
      rw [eqv_nil]
      refine ⟨_, rfl, ?_⟩
      have hM : M ≤ 4 := by have := Z.f; (first | lia | omega)
      by_cases hc : cs = []
      · rw [decide_eq_true hc]
        refine iteF ⟨le, o7, o8, o9, vs, es, rfl, (F1.same s5).less (by (first | lia | omega)), S1.trans s5.but, s5 _ _ hfo1, rfo.same s5, RT.rule (by (first | lia | omega)) (hes ?_) (hc ▸ CL)⟩
        have : j ≠ 0 := fun e => hj0 e hc
        (first | lia | omega)
      · rw [decide_eq_false hc]
        refine iteT ?_
        have hjM : j ≤ M := by
          rcases hjc with h | h
          · exact h
          · exact absurd h hc
        have few := LV.few Z hjM
        have lw' : ws.length = cs.length := by rw [rle.len, List.length_map]
        refine nwL (by show 0 ≤ 64; decide) fun la H6 hla e6 s6 => ?_
        refine ⟨_, rfl, ?_⟩
        have s16 := s5.trans s6
        refine rsrt (cs := cs) (SqL.of (s16 _ _ hle1)) (rle.same s16) (fun c hc' h => by have := (LV.each c hc').len; rw [h] at this; simp at this; (first | lia | omega)) (by (first | lia | omega)) fun so ix H7 hix hso e7 s7 => ?_
        rw [lw'] at hix
        have hixl : ∀ i ∈ ix, i < cs.length := fun i hi => by have := hix.mem_iff.mp hi; simpa using this
        have lix : ix.length = cs.length := by rw [hix.length_eq, List.length_range]
        have LV2 : LvOk F j (ix.map fun i => cs.getD i []) := LV.perm (perm_ix [] hix)
        have hpm := perm_ix [] hix
        have s17 := s16.trans s7
        have rso : RepL H7 ((ix.map fun i => cs.getD i []).map ctD) (ix.map fun i => ws.getD i .non) := repl_ix (rle.same s17) ix hixl
        have lcs : (ix.map fun i => cs.getD i []).length = cs.length := by rw [List.length_map, lix]
        generalize hcs2 : (ix.map fun i => cs.getD i []) = cs2 at *
        generalize hys2 : (ix.map fun i => ws.getD i V.non) = ys2 at *
        have lys : ys2.length = cs2.length := by rw [rso.len, List.length_map]
        have hla0 : H la = none := SameBut.free S1 F1.there (s5.free hla)
        have hso0 : H so = none := SameBut.free S1 F1.there (s16.free hso)
        have nla : la ≠ p := TP.ne hla0
        have nso : so ≠ p := TP.ne hso0
        have nlf' : la ≠ fo := fun e => by subst e; rw [s5 _ _ hfo1] at hla; cases hla
        have nsf : so ≠ fo := fun e => by subst e; rw [s16 _ _ hfo1] at hso; cases hso
        have nsl : so ≠ la := fun e => by subst e; rw [e6] at hso; cases hso
        refine ⟨so, rfl, ⟨_, SqL.of e7⟩, ?_⟩
        refine for_list (xs := ys2) (fun i σ H' => ∃ (o8 o9 : Option V) (vs2 us : List V) (es2 : List Ent) (ls : List (List Int)), σ = [some (.ref p), some (.int (F : Int)), some (.int (W : Int)), some (.int (M : Int)), some (.bl pl), some (.ref fo), some (.ref le), some (.ref la), o8, o9] ∧
            TapeAt H' p (n + 1024 * (6 - j) - 16 * i) ∧ SameBut p H H' ∧ H' so = some (.lst ys2) ∧ H' fo = some (.lst vs2) ∧ RepL H' (es2.map enD) vs2 ∧ H' la = some (.lst us) ∧ RepL H' (ls.map ctD) us ∧ RuIn F W M j es es2 (cs2.take i) ∧ LvOk F (j + 1) ls ∧ (j = M → ls = []) ∧ RepL H' (cs2.map ctD) ys2 ∧ LvFrom ls (es2.drop es.length))
          ⟨_, _, vs, [], es, [], rfl, (F1.same s17).less (by (first | lia | omega)), S1.trans s17.but, e7, s17 _ _ hfo1, rfo.same s17, s7 _ _ e6, RepL.nil, ⟨[], by rw [List.append_nil], rfl, fun e he => by cases he⟩, ⟨List.nodup_nil, fun c hc => by cases hc⟩, fun _ => rfl, rso, fun c => ⟨(fun h => by cases h), (fun ⟨e, he, _⟩ => by rw [List.drop_length] at he; cases he)⟩⟩ (fun i σ H' _ q => ?_) ?_ ?_
        · obtain ⟨_, _, _, _, _, _, _, _, _, h, _⟩ := q
          exact SqL.of h
        · rintro i x σ H' hx ⟨o8, o9, vs2, us, es2, ls, rfl, F', S', hso', hfo', rfo', hla', rla', RI, LS, hjm, rso', LF⟩
          obtain ⟨c, hci, rx⟩ := rso'.atI hx
          have hi : i < cs2.length := (List.getElem?_eq_some_iff.mp hci).1
          have okc := LV2.each c (List.mem_of_getElem? hci)
          obtain ⟨ax, rfl, hax⟩ := ctD_at rx
          refine ⟨_, rfl, _, rfl, _, rfl, ?_⟩
          refine rsT (SqT.of hax) ?_
          refine ⟨_, rfl, rfl, _, rfl, ?_⟩
          refine sp_says_i (n := n + 1024 * (6 - j) - 16 * (i + 1)) (F'.less (by (first | lia | omega))) Z.w.1 Z.w.2 fun v fs H8 F8 s8 r8 ok8 st8 => ?_
          have t8 := F'.t s8
          have hso8 := s8.at nso hso'
          have hfo8 := s8.at nlf hfo'
          have hla8 := s8.at nla hla'
          have rfo8 := rfo'.flat t8 (ens_flat _)
          have rla8 := rla'.flat t8 (cts_flat _)
          have rso8 := rso'.flat t8 (cts_flat _)
          have rx8 := rx.flat t8 (ctD_flat _)
          have hlen : vs2.length ≤ 500 := by
            rw [rfo8.len, List.length_map, RI.len, List.length_take]
            have := RT.len
            have : 64 * j ≤ 64 * 5 := Nat.mul_le_mul_left _ (by (first | lia | omega))
            (first | lia | omega)
          refine ⟨_, rfl, tyL hfo8, _, rfl, _, rfl, ?_⟩
          refine nwT (by show 2 ≤ 64; decide) fun q9 H9 hq9 e9 s9 => ?_
          refine appL (s9 _ _ hfo8) (by (first | lia | omega)) fun H10 e10 s10 => ?_
          have t10 := s10.t (s9 _ _ hfo8)
          have t910 := s9.t.trans t10
          have hso10 := s10.at nsf (s9 _ _ hso8)
          have hla10 := s10.at nlf' (s9 _ _ hla8)
          have rx10 := rx8.flat t910 (ctD_flat _)
          have r10 := r8.flat t910 (shD_flat _)
          have ren : Rep H10 (enD (c, fs)) (.ref q9) := Rep.tup (t10 _ _ e9) (RepL.cons rx10 (RepL.cons r10 RepL.nil))
          have rfo10 : RepL H10 ((es2 ++ [(c, fs)]).map enD) (vs2 ++ [.ref q9]) := by
            rw [List.map_append]
            exact RepL.append (RepL.cons ren RepL.nil) (rfo8.flat t910 (ens_flat _))
          have F10 := (F8.same s9).but s10 nlf
          have S10 : SameBut p H H10 := SameBut.thru hfo ((S'.trans s8).trans s9.but) s10
          obtain ⟨f0, fr, rfl⟩ : ∃ f0 fr, fs = f0 :: fr := by
            cases fs with
            | nil => exact absurd (ok8.len) (by rw [List.length_nil]; (first | lia | omega))
            | cons f0 fr => exact ⟨f0, fr, rfl⟩
          have lfr : fr.length ≤ 4 := by have := ok8.len; rw [List.length_cons] at this; have := Z.w; (first | lia | omega)
          refine ⟨_, rfl, tyL hla10, _, rfl, _, rfl, ?_⟩
          refine sp_next_i rx10 r10 (by rw [okc.len]; (first | lia | omega)) lfr fun D ys H11 hD hD11 rD s11 => ?_
          refine ⟨D, rfl, ⟨_, SqL.of hD11⟩, ?_⟩
          have NX := nexts_ok okc f0
          have lnx : (nexts c f0).length ≤ 4 := by
            unfold nexts
            split
            · exact Nat.zero_le _
            · rw [List.length_map, List.length_range, okc.len]; (first | lia | omega)
          have rla11 := (rla8.flat t910 (cts_flat _)).same s11
          have llen : ls.length < 64 := by
            by_cases h : j = M
            · rw [hjm h]; decide
            · exact LS.few Z (by (first | lia | omega))
          refine comp_fltD rD (fun d => !decide (d ∈ ls)) (by rw [rD.len, List.length_map]; (first | lia | omega)) hD11 (fun x' d H' Q' hd rx' s' k' => ?_) (fun x' H' Q' q => ⟨_, rfl, q⟩) (fun D2 ys2 H12 hD2 e12 s12 r12 => ?_)
          · refine ⟨_, rfl, _, rfl, ?_⟩
            refine riT (.inl (SqL.of (s' _ _ (s11 _ _ hla10)))) (rla11.same s') rx'.k ?_
            exact ⟨_, rfl, k' H' (Same.refl _)⟩
          · have s1112 := s11.trans s12
            refine extL (s1112 _ _ hla10) e12 (by rw [rla8.len, r12.len, List.length_map, List.length_map]; have := List.length_filter_le (fun d => !decide (d ∈ ls)) (nexts c f0); (first | lia | omega)) fun H13 e13 s13 => ?_
            have t13 := s13.t (s1112 _ _ hla10)
            have tt := s1112.t.trans t13
            refine ⟨_, _, vs2 ++ [.ref q9], us ++ ys2, es2 ++ [(c, f0 :: fr)], ls ++ (nexts c f0).filter (fun d => !decide (d ∈ ls)), rfl, (F10.same s1112).but s13 nla, SameBut.thru hla0 (S10.trans s1112.but) s13, s13.at nsl (s1112 _ _ hso10), s13.at (Ne.symm nlf') (s1112 _ _ e10), rfo10.flat tt (ens_flat _), e13, ?_, ?_, LS.more NX, fun h => ?_, (rso8.flat t910 (cts_flat _)).flat tt (cts_flat _), ?_⟩
            · rw [List.map_append]
              exact RepL.append (r12.flat t13 (cts_flat _)) ((rla11.same s12).flat t13 (cts_flat _))
            · rw [List.take_succ, hci]
              exact RI.snoc ok8
            · have hsum := okc.sum
              have := st8 (decide_eq_true (by rw [hsum, h]))
              cases (show f0 = (0, 1) by simpa using this)
              rw [hjm h]
              rfl
            · have hle2 : es.length ≤ es2.length := by rw [RI.len]; (first | lia | omega)
              rw [List.drop_append_of_le_length hle2]
              exact LvFrom.more (e := (c, f0 :: fr)) LF
        · rintro σ H8 ⟨o8, o9, vs2, us, es2, ls, rfl, F8, S8, hso8, hfo8, rfo8, hla8, rla8, RI, LS, hjm, _, LF⟩
          rw [lys, List.take_length] at RI
          have RT2 := RI.done RT LV2 hjM (by (first | lia | omega))
          have CL2 : Clo F es2 ls := by
            obtain ⟨ne, e1, e2, _⟩ := RI.ex
            subst e1
            rw [List.drop_left] at LF
            exact CL.step hpm e2 LF
          refine ⟨_, rfl, 6 - (j + 1), by (first | lia | omega), j + 1, la, _, _, _, vs2, us, es2, ls, rfl, rfl, by (first | lia | omega), ?_, fun h => by (first | lia | omega), fun _ h => ?_, F8.less (by rw [lys]; (first | lia | omega)), S8, hfo8, rfo8, hla8, rla8, hla0, nlf', LS, RT2, CL2⟩
          · by_cases h : j = M
            · exact .inr (hjm h)
            · exact .inl (by (first | lia | omega))
          · have := RI.len
            rw [h] at this
            have h0 : cs.length ≠ 0 := fun e => hc (List.length_eq_zero_iff.mp e)
            simp at this
            (first | lia | omega)
    · rintro σ H1 ⟨le, o7, o8, o9, vs, es, rfl, F1, S1, hfo1, rfo, RO⟩
      refine ⟨_, rfl, fo, vs, rfl, .inl ⟨SqL.of hfo1, fun l hl => ?_⟩⟩
      have sl := Same.upd (o := .tup vs) hl
      have el : (upd H1 l (.tup vs)) l = some (.tup vs) := upd_same
      generalize upd H1 l (.tup vs) = H2 at sl el
      exact k _ es H2 (F1.same sl) (S1.trans sl.but) (Rep.tup el (rfo.same sl)) RO
end
end Kw
set_option Elab.async false
set_option linter.all false
set_option maxRecDepth 100000
namespace Kw
open PySem L2 Mf
abbrev s_most_of : Stmt := (top 2)
theorem sc_most_of : FnScope ["rule"] ["rule"] (defScope s_most_of) := ⟨rfl, rfl, rfl, by decide +kernel, rfl, by decide +kernel, by decide +kernel⟩
abbrev s_is_plain : Stmt := (top 3)
theorem sc_is_plain : FnScope ["rule"] ["rule"] (defScope s_is_plain) := ⟨rfl, rfl, rfl, by decide +kernel, rfl, by decide +kernel, by decide +kernel⟩
abbrev s_bounds_of : Stmt := (top 8)
theorem sc_bounds_of : FnScope ["rule", "found", "counts", "says"] ["rule"] (defScope s_bounds_of) := ⟨rfl, rfl, rfl, by decide +kernel, rfl, by decide +kernel, by decide +kernel⟩
abbrev s_closest_bounds : Stmt := (top 9)
theorem sc_closest_bounds : FnScope ["rule", "looks", "low", "high", "counts", "says"] ["rule", "looks"] (defScope s_closest_bounds) := ⟨rfl, rfl, rfl, by decide +kernel, rfl, by decide +kernel, by decide +kernel⟩
abbrev s_says_by : Stmt := (top 10)
theorem sc_says_by : FnScope ["bounds", "counts", "bound"] ["bounds", "counts"] (defScope s_says_by) := ⟨rfl, rfl, rfl, by decide +kernel, rfl, by decide +kernel, by decide +kernel⟩
theorem ruD_at {H : Hp} {es : List Ent} {v : V} (h : Rep H (ruD es) v) : ∃ a xs, v = .ref a ∧ H a = some (.tup xs) ∧ RepL H (es.map enD) xs := by
  unfold Rep at h; exact h
theorem enD_at {H : Hp} {e : Ent} {v : V} (h : Rep H (enD e) v) : ∃ a x y, v = .ref a ∧ H a = some (.tup [x, y]) ∧ Rep H (ctD e.1) x ∧ Rep H (shD e.2) y := by
  unfold Rep RepL RepL RepL at h
  obtain ⟨a, _, rfl, h1, x, _, rfl, r1, y, _, rfl, r2, rfl⟩ := h
  exact ⟨a, x, y, rfl, h1, r1, r2⟩
@[irreducible] def sp_is_plain : Sp := fun vs H Q _ => ∃ (x : V) (es : List Ent), vs = [x] ∧ Rep H (ruD es) x ∧ es.length ≤ 1000 ∧ ∀ H', Same H H' → Q (.bl (es.all fun e => decide ((1, 1) ∈ e.2))) H'
theorem sp_is_plain_i {H : Hp} {Q : VK} {E : XK} {x : V} {es : List Ent} (h1 : Rep H (ruD es) x) (h2 : es.length ≤ 1000) (k : ∀ H', Same H H' → Q (.bl (es.all fun e => decide ((1, 1) ∈ e.2))) H') : sp_is_plain [x] H Q E := by
  unfold sp_is_plain; exact ⟨x, es, rfl, h1, h2, k⟩
theorem fr_cs (fs : List Fr) : fs.map frD = (fs.map fun f => [f.1, f.2]).map ctD := by
  rw [List.map_map]; rfl
theorem fr_in (fs : List Fr) : decide ([(1 : Int), 1] ∈ fs.map fun f => [f.1, f.2]) = decide (((1 : Int), (1 : Int)) ∈ fs) := by
  rw [decide_eq_decide, List.mem_map]
  constructor
  · rintro ⟨f, hf, e⟩
    injection e with e1 e2
    injection e2 with e2 _
    have : f = (1, 1) := by cases f; simp at e1 e2; rw [e1, e2]
    rw [← this]; exact hf
  · intro h
    exact ⟨_, h, rfl⟩
theorem bls_of {P : Nat → Bool → Prop} : ∀ {ys : List V}, (∀ (i : Nat) (y : V), ys[i]? = some y → ∃ n, y = .bl n ∧ P i n) → ∃ ns : List Bool, ys = ns.map V.bl ∧ ∀ (i : Nat) n, ns[i]? = some n → P i n
  | [], _ => ⟨[], rfl, fun i n h => by simp at h⟩
  | y :: ys, h => by
    obtain ⟨n, rfl, hn⟩ := h 0 y rfl
    obtain ⟨ns, rfl, hs⟩ := bls_of (P := fun i => P (i + 1)) (ys := ys) fun i z hz => h (i + 1) z (by simpa using hz)
    refine ⟨n :: ns, rfl, fun i m hm => ?_⟩
    cases i with
    | zero => cases (show n = m by simpa using hm); exact hn
    | succ i => exact hs i m (by simpa using hm)
section
variable {P : Program} {w : World} {K : PySem.W.Frag} {mg : Str → Option Value} {base : Heap} {c : Cl}
set_option maxHeartbeats 4000000 in
theorem ok_is_plain {f : Addr} {fd : FuncData} (F : Fun K "is_plain" "is_plain" s_is_plain f fd) (T : Txt K mg c) : FnOk P w K mg base CX0 1 f fd ["rule"] sp_is_plain := by
  refine F.okw sc_is_plain (fun vs H Q E h => ?_) (fun cdv A outer s H vs Q E hr h => ?_)
  · unfold sp_is_plain at h
    obtain ⟨x, es, rfl, _⟩ := h
    rfl
  · unfold sp_is_plain at h
    obtain ⟨x, es, rfl, rx, hl, k⟩ := h
    obtain ⟨a, xs, rfl, ha, rxs⟩ := ruD_at rx
    refine ⟨_, (wss_one (ws_ret (we_cB (cl_all rfl) (by rfl) T.b_all (by decide +kernel) (wa_k (we_comp (CScope.of (psc := defScope s_is_plain) (N := ["rule"]) (N' := ["entry"]) (js := []) (by decide +kernel) rfl rfl rfl) (wi_tup (we_v 0)) (fun _ _ _ _ => wts_nil) (fun _ _ _ _ => (we_cmp (op_inT K hr.units) (we_glob (v := .ref c.ONE) rfl T.g_ONE rfl) (we_ix (ix_seqK K) (we_v 0) we_int (fun _ _ => rfl)) (by with_unfolding_all rfl)))) wa_nil)))), ?_⟩
    refine ⟨_, rfl, a, rfl, ⟨_, SqT.of ha⟩, ?_⟩
    refine comp_mapU (fun i y H' => ∃ e, es[i]? = some e ∧ y = .bl (decide ((1, 1) ∈ e.2))) (fun i y H1 H2 s h => h) (by rw [rxs.len, List.length_map]; (first | lia | omega)) ha (fun i x H' Q' hx s' k' => ?_) (fun D ys H8 hD hD8 s8 hy8 hr8 => ?_)
    · obtain ⟨e, he, re⟩ := rxs.atI hx
      obtain ⟨b, u, v, rfl, hb, ru, rv⟩ := enD_at (re.same s')
      obtain ⟨av, vs, rfl, hav, rvs⟩ := shD_at rv
      refine ⟨_, rfl, ?_⟩
      refine ixT hb rfl ?_
      refine riT (cs := e.2.map fun f => [f.1, f.2]) (c := [1, 1]) (.inr (SqT.of hav)) (by rw [← fr_cs]; exact rvs) ?_ ?_
      · exact RepK.tup (sqT_ints T.o_ONE) (RepKL.ints [1, 1])
      · rw [if_neg (by decide), fr_in]
        exact k' _ H' (Same.refl _) ⟨e, he, rfl⟩
    · obtain ⟨bs, rfl, hbs⟩ := bls_of (P := fun i b => ∃ e, es[i]? = some e ∧ b = decide ((1, 1) ∈ e.2)) (fun i y hi => by
        obtain ⟨e, h1, h2⟩ := hr8 i y hi
        exact ⟨_, h2, e, h1, rfl⟩)
      refine rall hD8 ?_
      have eb : bs = es.map fun e => decide ((1, 1) ∈ e.2) := by
        apply List.ext_getElem?
        intro i
        rw [List.getElem?_map]
        rw [List.length_map, rxs.len, List.length_map] at hy8
        cases q : bs[i]? with
        | none =>
          have : bs.length ≤ i := List.getElem?_eq_none_iff.mp q
          rw [List.getElem?_eq_none (by (first | lia | omega))]; rfl
        | some b =>
          obtain ⟨e, h1, h2⟩ := hbs i b q
          rw [h1, h2]; rfl
      rw [eb, List.all_map]
      exact k H8 s8
end
@[irreducible] def sp_most_of : Sp := fun vs H Q _ => ∃ (x : V) (es : List Ent) (e : Ent), vs = [x] ∧ Rep H (ruD es) x ∧ es.getLast? = some e ∧ Q (.int e.1.sum) H
theorem sp_most_of_i {H : Hp} {Q : VK} {E : XK} {x : V} {es : List Ent} {e : Ent} (h1 : Rep H (ruD es) x) (h2 : es.getLast? = some e) (k : Q (.int e.1.sum) H) : sp_most_of [x] H Q E := by
  unfold sp_most_of; exact ⟨x, es, e, rfl, h1, h2, k⟩
section
variable {P : Program} {w : World} {K : PySem.W.Frag} {mg : Str → Option Value} {base : Heap} {c : Cl}
theorem ok_most_of {f : Addr} {fd : FuncData} (F : Fun K "most_of" "most_of" s_most_of f fd) (T : Txt K mg c) : FnOk P w K mg base CX0 1 f fd ["rule"] sp_most_of := by
  refine F.okw sc_most_of (fun vs H Q E h => ?_) (fun cdv A outer s H vs Q E hr h => ?_)
  · unfold sp_most_of at h
    obtain ⟨x, es, e, rfl, _⟩ := h
    rfl
  · unfold sp_most_of at h
    obtain ⟨x, es, e, rfl, rx, he, k⟩ := h
    obtain ⟨a, xs, rfl, ha, rxs⟩ := ruD_at rx
    have he' : es[es.length - 1]? = some e := by rw [← List.getLast?_eq_getElem?]; exact he
    have hl : 0 < es.length := by
      rcases Nat.eq_zero_or_pos es.length with h | h
      · rw [List.length_eq_zero_iff.mp h] at he; cases he
      · exact h
    obtain ⟨z, hz, rz⟩ := RepL.atX rxs he'
    obtain ⟨b, u, v, rfl, hb, ru, rv⟩ := enD_at rz
    obtain ⟨cu, rfl, hcu⟩ := ctD_at ru
    have lx : xs.length = es.length := by rw [rxs.len, List.length_map]
    refine ⟨_, (wss_one (ws_ret (we_cB (cl_sumT K rfl) (by rfl) T.b_sum (by decide +kernel) (wa_k (we_ix ix_seq (we_ix ix_seq (we_v 0) (we_un un_neg we_int) (fun _ _ => rfl)) we_int (fun _ _ => rfl)) wa_nil)))), ?_⟩
    refine ⟨_, rfl, _, rfl, ?_⟩
    refine ixT ha (v := .ref b) ?_ ?_
    · have hix : ixN xs.length (-1) = some (es.length - 1) := by
        unfold ixN
        rw [if_neg (by decide)]
        rw [if_pos (by (first | lia | omega))]
        congr 1
        (first | lia | omega)
      unfold atI
      rw [hix]
      exact hz
    refine ixT hb rfl ?_
    refine rsT (SqT.of hcu) ?_
    exact k
end
/-! ### bounds of rules of two faces and two ways -/
abbrev f0 : List Fr := [(1, 1), (0, 1), (0, 1)]
abbrev f1 : List Fr := [(0, 1), (1, 1), (0, 1)]
abbrev f2 : List Fr := [(0, 1), (0, 1), (1, 1)]
def c1 (e : Ent) : Int := e.1.getD 1 0
/-- rules as bounds ask for them -/
structure BuOk (es : List Ent) : Prop where
  ne : es ≠ []
  each : ∀ e ∈ es, e.1.length = 2 ∧ (∀ x ∈ e.1, 0 ≤ x) ∧ e.1.sum ≤ 8 ∧ SyOk 3 e.2
  asc : (es.map fun e => e.1.sum).Pairwise (· ≤ ·)
  len : es.length ≤ 320
def lowS (k : Int) (l : Int) (e : Ent) : Int := if e.1.sum = k ∧ e.2 = f1 then (if c1 e > l then c1 e else l) else l
def highS (k : Int) (h : Int) (e : Ent) : Int := if e.1.sum = k ∧ e.2 = f2 then (if c1 e < h then c1 e else h) else h
def lowF (es : List Ent) (k : Int) : Int := es.foldl (lowS k) (-1)
def highF (es : List Ent) (k : Int) : Int := es.foldl (highS k) (k + 1)
def byF (l h s : Int) : List Fr := if s ≤ l then f1 else if s ≥ h then f2 else f0
def prD (l h : Int) : PyData := .tuple [.int l, .int h]
abbrev bdDs (es : List Ent) (L : Nat) : List PyData := (List.range (L + 1)).map fun k : Nat => prD (lowF es k) (highF es k)
theorem sh3_shaped (fs : List Fr) : SeqAt.shaped (shD fs) = true := by
  have hf : ∀ fs : List Fr, PyData.canLayAll0 (fs.map frD) = true ∧ PyData.depthAll (fs.map frD) ≤ 2 := fun fs => by
    induction fs with
    | nil => exact ⟨rfl, by show 0 ≤ 2; (first | lia | omega)⟩
    | cons f fs ih =>
      refine ⟨?_, ?_⟩
      · show (PyData.canLay0 (frD f) && PyData.canLayAll0 (fs.map frD)) = true
        rw [ih.1]; rfl
      · show max (PyData.depth (frD f)) (PyData.depthAll (fs.map frD)) ≤ 2
        have : PyData.depth (frD f) ≤ 2 := by simp [PyData.depth, PyData.depthAll]
        have := ih.2
        (first | lia | omega)
  unfold SeqAt.shaped
  rw [show PyData.canLay0 (shD fs) = PyData.canLayAll0 (fs.map frD) from rfl, (hf fs).1, Bool.true_and, decide_eq_true_eq]
  have := (hf fs).2
  simp only [PyData.depth]
  (first | lia | omega)
theorem eqv_frs : ∀ a b : List Fr, PyData.eqvAll (a.map frD) (b.map frD) = decide (a = b)
  | [], [] => rfl
  | [], b :: bs => by simp [PyData.eqvAll]
  | a :: as, [] => by simp [PyData.eqvAll]
  | a :: as, b :: bs => by
    show (PyData.eqv (frD a) (frD b) && PyData.eqvAll (as.map frD) (bs.map frD)) = _
    rw [eqv_fr, eqv_frs as bs]
    by_cases h : a = b
    · by_cases h2 : as = bs
      · simp [h, h2]
      · simp [h, h2]
    · simp [h]
theorem eqv_sh (a b : List Fr) : PyData.eqv (shD a) (shD b) = decide (a = b) := eqv_frs a b
@[irreducible] def sp_closest : Sp := fun vs H Q _ => ∃ (x : V) (es : List Ent) (k : Nat), vs = [x, .int (k : Int)] ∧ Rep H (ruD es) x ∧ BuOk es ∧ k ≤ 1000 ∧ ∀ q H', Same H H' → H' q = some (.tup [.int (lowF es k), .int (highF es k)]) → Q (.ref q) H'
theorem sp_closest_i {H : Hp} {Q : VK} {E : XK} {x : V} {es : List Ent} {k : Nat} (h1 : Rep H (ruD es) x) (h2 : BuOk es) (h3 : k ≤ 1000) (q : ∀ q H', Same H H' → H' q = some (.tup [.int (lowF es k), .int (highF es k)]) → Q (.ref q) H') : sp_closest [x, .int (k : Int)] H Q E := by
  unfold sp_closest; exact ⟨x, es, k, rfl, h1, h2, h3, q⟩
@[irreducible] def sp_says_by (K : PySem.W.Frag) : Sp := fun vs H Q _ => ∃ (D : Addr) (ys : List V) (y : V) (es : List Ent) (L : Nat) (c : List Int), vs = [.ref D, y] ∧ H D = some (.lst ys) ∧ RepL H (bdDs es L) ys ∧ Rep H (ctD c) y ∧ c.length = 2 ∧ 0 ≤ c.sum ∧ c.sum ≤ (L : Int) ∧ ∀ v, RepK K H (shD (byF (lowF es c.sum) (highF es c.sum) (c.getD 1 0))) v → Q v H
theorem sp_says_by_i {K : PySem.W.Frag} {H : Hp} {Q : VK} {E : XK} {D : Addr} {ys : List V} {y : V} {es : List Ent} {L : Nat} {c : List Int} (h1 : H D = some (.lst ys)) (h2 : RepL H (bdDs es L) ys) (h3 : Rep H (ctD c) y) (h4 : c.length = 2) (h5 : 0 ≤ c.sum) (h6 : c.sum ≤ (L : Int)) (q : ∀ v, RepK K H (shD (byF (lowF es c.sum) (highF es c.sum) (c.getD 1 0))) v → Q v H) : sp_says_by K [.ref D, y] H Q E := by
  unfold sp_says_by; exact ⟨D, ys, y, es, L, c, rfl, h1, h2, h3, h4, h5, h6, q⟩
/-- whether bounds tell what the rule says -/
def bdOk (es : List Ent) : Bool := (es.all fun e => decide (((1, 1) : Fr) ∈ e.2)) && es.all fun e => decide (byF (lowF es e.1.sum) (highF es e.1.sum) (c1 e) = e.2)
@[irreducible] def sp_bounds_of : Sp := fun vs H Q _ => ∃ (x : V) (es : List Ent) (e : Ent) (L : Nat), vs = [x] ∧ Rep H (ruD es) x ∧ BuOk es ∧ es.getLast? = some e ∧ e.1.sum = (L : Int) ∧ ∀ H', Same H H' → (bdOk es = false → Q .non H') ∧ (bdOk es = true → ∀ v, Rep H' (.tuple (bdDs es L)) v → Q v H')
theorem sp_bounds_of_i {H : Hp} {Q : VK} {E : XK} {x : V} {es : List Ent} {e : Ent} {L : Nat} (h1 : Rep H (ruD es) x) (h2 : BuOk es) (h3 : es.getLast? = some e) (h4 : e.1.sum = (L : Int)) (q : ∀ H', Same H H' → (bdOk es = false → Q .non H') ∧ (bdOk es = true → ∀ v, Rep H' (.tuple (bdDs es L)) v → Q v H')) : sp_bounds_of [x] H Q E := by
  unfold sp_bounds_of; exact ⟨x, es, e, L, rfl, h1, h2, h3, h4, q⟩
theorem sum_nn : ∀ {c : List Int}, (∀ x ∈ c, 0 ≤ x) → 0 ≤ c.sum
  | [], _ => Int.le_refl _
  | a :: l, h => by rw [List.sum_cons]; have := h a List.mem_cons_self; have := sum_nn fun x hx => h x (List.mem_cons_of_mem a hx); (first | lia | omega)
theorem at_one {c : List Int} (h : c.length = 2) : atI (c.map V.int) 1 = some (.int (c.getD 1 0)) := match c, h with | [_, _], _ => rfl
theorem BuOk.last {es : List Ent} (h : BuOk es) {e : Ent} (he : es.getLast? = some e) : ∀ d ∈ es, d.1.sum ≤ e.1.sum := fun d hd => by
  obtain ⟨i, hi⟩ := List.mem_iff_getElem?.mp hd
  have hl := (List.getElem?_eq_some_iff.mp hi).1
  have he' : es[es.length - 1]? = some e := by rw [← List.getLast?_eq_getElem?]; exact he
  by_cases q : i = es.length - 1
  · rw [q, he'] at hi; cases hi; exact Int.le_refl _
  · have := List.pairwise_iff_getElem.mp h.asc i (es.length - 1) (by rw [List.length_map]; exact hl) (by rw [List.length_map]; (first | lia | omega)) (by (first | lia | omega))
    rw [List.getElem_map, List.getElem_map, (List.getElem?_eq_some_iff.mp hi).2, (List.getElem?_eq_some_iff.mp he').2] at this
    exact this
section
variable {P : Program} {w : World} {K : PySem.W.Frag} {mg : Str → Option Value} {base : Heap} {c : Cl}
theorem on_k (T : Txt K mg c) {H : Hp} : RepK K H (shD f0) (.ref c.ON) ∧ RepK K H (shD f1) (.ref c.SAYS_FIRST) ∧ RepK K H (shD f2) (.ref c.SAYS_SECOND) := ⟨repK_prs T.o_ON, repK_prs T.o_SAYS_FIRST, repK_prs T.o_SAYS_SECOND⟩
set_option maxHeartbeats 4000000 in
theorem ok_closest_bounds {f : Addr} {fd : FuncData} (F : Fun K "closest_bounds" "closest_bounds" s_closest_bounds f fd) (T : Txt K mg c) : FnOk P w K mg base CX0 1 f fd ["rule", "looks"] sp_closest := by
  refine F.okw sc_closest_bounds (fun vs H Q E h => ?_) (fun cdv A outer s H vs Q E hr h => ?_)
  · unfold sp_closest at h
    obtain ⟨x, es, k, rfl, _⟩ := h
    rfl
  · unfold sp_closest at h
    obtain ⟨x, es, k, rfl, rx, BO, hk, q⟩ := h
    obtain ⟨a, xs, rfl, ha, rxs⟩ := ruD_at rx
    have lx : xs.length = es.length := by rw [rxs.len, List.length_map]
    refine ⟨_, (wss_cons (ws_set (i := 2) sc_closest_bounds.nd rfl (Or.inl rfl) (we_un un_neg we_int))
      (wss_cons (ws_set (i := 3) sc_closest_bounds.nd rfl (Or.inl rfl) (we_op op_add (we_v 1) we_int))
      (wss_cons (ws_for PassesOwn.never rfl (wi_tup (we_v 0)) (wg_tup rfl (wgs_cons (wg_name (i := 4) sc_closest_bounds.nd rfl (Or.inl rfl)) (wgs_cons (wg_name (i := 5) sc_closest_bounds.nd rfl (Or.inl rfl)) wgs_nil))) (wss_cons (ws_cut (ws_if (wt_mono (wt_w (ww_and (wt_cmp op_eq (we_cB (cl_sumT K rfl) (by rfl) T.b_sum (by decide +kernel) (wa_k (we_v 4) wa_nil)) (we_v 1) (nomark _)) (ww_and1 (wt_cmp (op_eqK K hr.units) (we_v 5) (we_glob (v := .ref c.SAYS_FIRST) rfl T.g_SAYS_FIRST rfl) (nomark _)))))) (wss_one (ws_set (i := 2) sc_closest_bounds.nd rfl (Or.inl rfl) (we_cB (call_max2 rfl) (by rfl) T.b_max (by decide +kernel) (wa_k (we_v 2) (wa_k (we_ix ix_seq (we_v 4) we_int (fun _ _ => rfl)) wa_nil))))) wss_nil))
      (wss_one (ws_if (wt_mono (wt_w (ww_and (wt_cmp op_eq (we_cB (cl_sumT K rfl) (by rfl) T.b_sum (by decide +kernel) (wa_k (we_v 4) wa_nil)) (we_v 1) (nomark _)) (ww_and1 (wt_cmp (op_eqK K hr.units) (we_v 5) (we_glob (v := .ref c.SAYS_SECOND) rfl T.g_SAYS_SECOND rfl) (nomark _)))))) (wss_one (ws_set (i := 3) sc_closest_bounds.nd rfl (Or.inl rfl) (we_cB (call_min2 rfl) (by rfl) T.b_min (by decide +kernel) (wa_k (we_v 3) (wa_k (we_ix ix_seq (we_v 4) we_int (fun _ _ => rfl)) wa_nil))))) wss_nil))))
      (wss_one (ws_ret (we_tup (wa_k (we_v 2) (wa_k (we_v 3) wa_nil)))))))), ?_⟩
    refine ⟨_, rfl, _, rfl, _, _, rfl, rfl, ?_⟩
    refine ⟨_, rfl, a, rfl, ⟨_, SqT.of ha⟩, ?_⟩
    refine for_tup (xs := xs) (fun i σ H' => ∃ o4 o5 : Option V, σ = [some (.ref a), some (.int (k : Int)), some (.int ((es.take i).foldl (lowS k) (-1))), some (.int ((es.take i).foldl (highS k) ((k : Int) + 1))), o4, o5] ∧ H' = H) ⟨_, _, rfl, rfl⟩ (fun i σ H' _ q => ?_) ?_ ?_
    · obtain ⟨_, _, _, rfl⟩ := q
      exact SqT.of ha
    · rintro i x σ H' hx ⟨o4, o5, rfl, rfl⟩
      obtain ⟨e, he, re⟩ := rxs.atI hx
      obtain ⟨hl, hnn, h8, hsy⟩ := BO.each e (List.mem_of_getElem? he)
      obtain ⟨b, u, v, rfl, hb, ru, rv⟩ := enD_at re
      obtain ⟨cu, rfl, hcu⟩ := ctD_at ru
      have hti : es.take (i + 1) = es.take i ++ [e] := by rw [List.take_add_one, he]; rfl
      generalize hlo : (es.take i).foldl (lowS k) (-1) = lo
      generalize hhi : (es.take i).foldl (highS k) ((k : Int) + 1) = hi
      refine ⟨b, [.ref cu, v], rfl, SqT.of hb, rfl, .ref cu, [v], rfl, v, [], rfl, rfl, ?_⟩
      have e1 : (es.take (i + 1)).foldl (lowS k) (-1) = lowS k lo e := by rw [hti, List.foldl_append, hlo]; rfl
      have e2 : (es.take (i + 1)).foldl (highS k) ((k : Int) + 1) = highS k hi e := by rw [hti, List.foldl_append, hhi]; rfl
      rw [e1, e2]
      refine ⟨fun σ H2 => σ = [some (.ref a), some (.int (k : Int)), some (.int (lowS k lo e)), some (.int hi), some (.ref cu), some v] ∧ H2 = H', ?_, ?_⟩
      · rintro σ H2 ⟨rfl, rfl⟩
        refine ⟨fun b H3 => b = decide (e.1.sum = (k : Int) ∧ e.2 = f2) ∧ H3 = H2, ?_, ?_⟩
        · refine ⟨_, rfl, ?_⟩
          refine rsT (SqT.of hcu) ?_
          refine ⟨_, rfl, rfl, _, rfl, ?_⟩
          show (if decide (V.int e.1.sum = V.int (k : Int)) = true then _ else _)
          by_cases hs : e.1.sum = (k : Int)
          · rw [if_pos (by simp [hs])]
            refine ⟨_, rfl, ?_⟩
            refine reK (Rep.k rv) (on_k T).2.2 (sh3_shaped _) (sh3_shaped _) ?_
            refine ⟨_, rfl, ?_, rfl⟩
            rw [eqv_sh]; simp [hs]
          · rw [if_neg (by simp [hs])]; exact ⟨by simp [hs], rfl⟩
        · rintro bb H3 ⟨rfl, rfl⟩
          by_cases hs : e.1.sum = (k : Int) ∧ e.2 = f2
          · rw [decide_eq_true hs]
            refine ⟨_, rfl, ?_⟩
            refine ⟨_, rfl, ?_⟩
            refine ixT hcu (at_one hl) ?_
            refine ⟨_, _, rfl, ?_⟩
            refine ⟨some (.ref cu), some v, ?_, rfl⟩
            unfold highS
            rw [if_pos hs]; rfl
          · rw [decide_eq_false hs]
            refine ⟨some (.ref cu), some v, ?_, rfl⟩
            unfold highS
            rw [if_neg hs]
      · refine ⟨fun b H3 => b = decide (e.1.sum = (k : Int) ∧ e.2 = f1) ∧ H3 = H', ?_, ?_⟩
        · refine ⟨_, rfl, ?_⟩
          refine rsT (SqT.of hcu) ?_
          refine ⟨_, rfl, rfl, _, rfl, ?_⟩
          show (if decide (V.int e.1.sum = V.int (k : Int)) = true then _ else _)
          by_cases hs : e.1.sum = (k : Int)
          · rw [if_pos (by simp [hs])]
            refine ⟨_, rfl, ?_⟩
            refine reK (Rep.k rv) (on_k T).2.1 (sh3_shaped _) (sh3_shaped _) ?_
            refine ⟨_, rfl, ?_, rfl⟩
            rw [eqv_sh]; simp [hs]
          · rw [if_neg (by simp [hs])]; exact ⟨by simp [hs], rfl⟩
        · rintro bb H3 ⟨rfl, rfl⟩
          by_cases hs : e.1.sum = (k : Int) ∧ e.2 = f1
          · rw [decide_eq_true hs]
            refine ⟨_, rfl, ?_⟩
            refine ⟨_, rfl, ?_⟩
            refine ixT hcu (at_one hl) ?_
            refine ⟨_, _, rfl, ?_⟩
            refine ⟨?_, rfl⟩
            unfold lowS
            rw [if_pos hs]; rfl
          · rw [decide_eq_false hs]
            refine ⟨?_, rfl⟩
            unfold lowS
            rw [if_neg hs]; rfl
    · rintro σ H' ⟨o4, o5, rfl, rfl⟩
      rw [show es.take xs.length = es by rw [lx]; exact List.take_length]
      refine ⟨_, rfl, _, rfl, ?_⟩
      exact nwT (Nat.le_of_ble_eq_true rfl) fun p H2 _ h2 s => q p H2 s h2
set_option maxHeartbeats 4000000 in
theorem ok_says_by {f : Addr} {fd : FuncData} (F : Fun K "says_by" "says_by" s_says_by f fd) (T : Txt K mg c) : FnOk P w K mg base CX0 1 f fd ["bounds", "counts"] (sp_says_by K) := by
  refine F.okw sc_says_by (fun vs H Q E h => ?_) (fun cdv A outer s H vs Q E hr h => ?_)
  · unfold sp_says_by at h
    obtain ⟨D, ys, y, es, L, d, rfl, _⟩ := h
    rfl
  · unfold sp_says_by at h
    obtain ⟨D, ys, y, es, L, d, rfl, hD, rys, ry, hl, h0, hL, q⟩ := h
    obtain ⟨cu, rfl, hcu⟩ := ctD_at ry
    obtain ⟨n, hn⟩ : ∃ n : Nat, d.sum = (n : Int) := ⟨d.sum.toNat, by (first | lia | omega)⟩
    have hnL : n ≤ L := by (first | lia | omega)
    obtain ⟨u, hu, ru⟩ := rys.get' (i := n) (d := prD (lowF es n) (highF es n)) (by rw [List.getElem?_map, List.getElem?_range (by (first | lia | omega))]; rfl)
    obtain ⟨p, rfl, hp'⟩ := frD_at (f := (lowF es n, highF es n)) ru
    have hp : H p = some (.tup [.int (lowF es n), .int (highF es n)]) := hp'
    rw [hn] at q
    refine ⟨_, (wss_cons (ws_set (i := 2) sc_says_by.nd rfl (Or.inl rfl) (we_ix ix_seq (we_v 0) (we_cB (cl_sumT K rfl) (by rfl) T.b_sum (by decide +kernel) (wa_k (we_v 1) wa_nil)) (fun _ _ => rfl)))
      (wss_cons (ws_if (wt_cmp op_le (we_ix ix_seq (we_v 1) we_int (fun _ _ => rfl)) (we_ix ix_seq (we_v 2) we_int (fun _ _ => rfl)) (nomark _)) (wss_one (ws_ret (we_glob (v := .ref c.SAYS_FIRST) rfl T.g_SAYS_FIRST rfl))) wss_nil)
      (wss_one (ws_ret (we_ifExp (wt_cmp op_ge (we_ix ix_seq (we_v 1) we_int (fun _ _ => rfl)) (we_ix ix_seq (we_v 2) we_int (fun _ _ => rfl)) (nomark _)) (we_glob (v := .ref c.SAYS_SECOND) rfl T.g_SAYS_SECOND rfl) (we_glob (v := .ref c.ON) rfl T.g_ON rfl)))))), ?_⟩
    refine ⟨_, rfl, _, rfl, ?_⟩
    refine rsT (SqT.of hcu) ?_
    rw [hn]
    refine ixL hD (atI_nat hu) ?_
    refine ⟨_, rfl, ?_⟩
    refine ixT hcu (at_one hl) ?_
    refine ⟨_, rfl, ?_⟩
    refine ixT hp rfl ?_
    refine ⟨_, _, rfl, rfl, _, rfl, ?_⟩
    by_cases h1 : d.getD 1 0 ≤ lowF es n
    · rw [decide_eq_true h1]
      refine q _ ?_
      unfold byF
      rw [if_pos h1]
      exact (on_k T).2.1
    · rw [decide_eq_false h1]
      refine ⟨_, rfl, ?_⟩
      refine ixT hcu (at_one hl) ?_
      refine ⟨_, rfl, ?_⟩
      refine ixT hp rfl ?_
      refine ⟨_, _, rfl, rfl, _, rfl, ?_⟩
      by_cases h2 : highF es n ≤ d.getD 1 0
      · rw [decide_eq_true h2]
        refine q _ ?_
        unfold byF
        rw [if_neg h1, if_pos h2]
        exact (on_k T).2.2
      · rw [decide_eq_false h2]
        refine q _ ?_
        unfold byF
        rw [if_neg h1, if_neg h2]
        exact (on_k T).1
set_option maxHeartbeats 4000000 in
theorem ok_bounds_of {f : Addr} {fd : FuncData} (F : Fun K "bounds_of" "bounds_of" s_bounds_of f fd) (T : Txt K mg c) (F_is_plain : FnC CX0 P w K mg base 1 "is_plain" ["rule"] sp_is_plain) (F_most_of : FnC CX0 P w K mg base 1 "most_of" ["rule"] sp_most_of) (F_closest_bounds : FnC CX0 P w K mg base 1 "closest_bounds" ["rule", "looks"] sp_closest) (F_says_by : FnC CX0 P w K mg base 1 "says_by" ["bounds", "counts"] (sp_says_by K)) : FnOk P w K mg base CX0 2 f fd ["rule"] sp_bounds_of := by
  refine F.okw sc_bounds_of (fun vs H Q E h => ?_) (fun cdv A outer s H vs Q E hr h => ?_)
  · unfold sp_bounds_of at h
    obtain ⟨x, es, e, L, rfl, _⟩ := h
    rfl
  · unfold sp_bounds_of at h
    obtain ⟨x, es, e, L, rfl, rx, BO, he, hL, q⟩ := h
    obtain ⟨a, xs, rfl, ha, rxs⟩ := ruD_at rx
    have lx : xs.length = es.length := by rw [rxs.len, List.length_map]
    have hL8 : L ≤ 8 := by have := (BO.each e (List.mem_of_getLast? he)).2.2.1; (first | lia | omega)
    refine ⟨_, (wss_cons (ws_if (wt_not (wt_val (we_fn F_is_plain (hr.mono (by decide)) (wa_k (we_v 0) wa_nil)))) (wss_one (ws_ret we_non)) wss_nil)
      (wss_cons (ws_setComp (i := 1) (CScope.of (psc := defScope s_bounds_of) (N := ["rule", "found", "counts", "says"]) (N' := ["looks", "rule"]) (js := [0]) (by decide +kernel) rfl rfl rfl) sc_bounds_of.nd rfl rfl (wi_range1 rfl T.b_range (wa_k (we_op op_add (we_fn F_most_of (hr.mono (by decide)) (wa_k (we_v 0) wa_nil)) we_int) wa_nil)) (fun _ _ _ _ => wts_nil) (fun _ _ _ _ => (we_fn F_closest_bounds (hr.mono (by decide)) (wa_k (we_v 1) (wa_k (we_v 0) wa_nil)))))
      (wss_cons (ws_for PassesOwn.never rfl (wi_tup (we_v 0)) (wg_tup rfl (wgs_cons (wg_name (i := 2) sc_bounds_of.nd rfl (Or.inl rfl)) (wgs_cons (wg_name (i := 3) sc_bounds_of.nd rfl (Or.inl rfl)) wgs_nil))) (wss_one (ws_if (wt_cmp (op_neK K hr.units) (we_fn F_says_by (hr.mono (by decide)) (wa_k (we_v 1) (wa_k (we_v 2) wa_nil))) (we_v 3) (nomark _)) (wss_one (ws_ret we_non)) wss_nil)))
      (wss_one (ws_ret (we_cT call_tuple_of (by rfl) T.b_tuple (by decide +kernel) (wa_k (we_v 1) wa_nil))))))), ?_⟩
    refine ⟨_, rfl, ?_⟩
    refine sp_is_plain_i rx (by have := BO.len; (first | lia | omega)) fun H1 s1 => ?_
    refine ⟨_, rfl, ?_⟩
    by_cases hp : (es.all fun e => decide (((1, 1) : Fr) ∈ e.2)) = true
    · rw [hp]
      refine ⟨_, rfl, ?_⟩
      refine sp_most_of_i (rx.same s1) he ?_
      rw [hL]
      refine ⟨_, _, rfl, rfl, ?_⟩
      refine ⟨_, rfl, by (first | lia | omega), by (first | lia | omega), ?_⟩
      refine comp_mapR (fun i y H' => Rep H' (frD (lowF es i, highF es i)) y) (fun i y H1 H2 s r => r.flat s (frD_flat _)) (by (first | lia | omega)) (fun i H' Q' hi s' k' => ?_) (fun D ys H2 hD e2 s2 hy hr2 => ?_)
      · rw [show (0 : Int) + (i : Int) = (i : Int) by (first | lia | omega)]
        refine ⟨_, rfl, _, rfl, ?_⟩
        refine sp_closest_i ((rx.same s1).same s') BO (by (first | lia | omega)) fun p H3 s3 h3 => ?_
        exact k' _ H3 s3 (frD_of h3)
      · have ly : ys.length = L + 1 := by (first | lia | omega)
        have ry : RepL H2 (bdDs es L) ys := RepL.ofIdx (by rw [ly, List.length_map, List.length_range]) fun i y hi => by
          have := (List.getElem?_eq_some_iff.mp hi).1
          exact ⟨_, by rw [List.getElem?_map, List.getElem?_range (by (first | lia | omega))]; rfl, hr2 i y hi⟩
        have s12 := s1.trans s2
        have rx2 := rxs.same s12
        have ha2 := s12 _ _ ha
        refine ⟨_, rfl, a, rfl, ⟨_, SqT.of ha2⟩, ?_⟩
        refine for_tup (xs := xs) (fun i σ H' => ∃ o2 o3 : Option V, σ = [some (.ref a), some (.ref D), o2, o3] ∧ H' = H2 ∧ ∀ d ∈ es.take i, byF (lowF es d.1.sum) (highF es d.1.sum) (c1 d) = d.2) ⟨_, _, rfl, rfl, fun d h => by simp at h⟩ (fun i σ H' _ q => ?_) ?_ ?_
        · obtain ⟨_, _, _, rfl, _⟩ := q
          exact SqT.of ha2
        · rintro i x σ H' hx ⟨o2, o3, rfl, rfl, hal⟩
          obtain ⟨d, hd, rd⟩ := rx2.atI hx
          have hdm := List.mem_of_getElem? hd
          obtain ⟨hl, hnn, h8, hsy⟩ := BO.each d hdm
          have hdL := BO.last he d hdm
          obtain ⟨b, u, v, rfl, hb, ru, rv⟩ := enD_at rd
          refine ⟨b, [u, v], rfl, SqT.of hb, rfl, u, [v], rfl, v, [], rfl, rfl, ?_⟩
          refine ⟨_, rfl, _, rfl, ?_⟩
          refine sp_says_by_i e2 ry ru hl (by have := sum_nn hnn; (first | lia | omega)) (by (first | lia | omega)) fun z rz => ?_
          refine ⟨_, rfl, ?_⟩
          refine reK rz (Rep.k rv) (sh3_shaped _) (sh3_shaped _) ?_
          refine ⟨_, rfl, ?_⟩
          rw [eqv_sh]
          by_cases hq : byF (lowF es d.1.sum) (highF es d.1.sum) (c1 d) = d.2
          · rw [decide_eq_true (show byF (lowF es d.1.sum) (highF es d.1.sum) (d.1.getD 1 0) = d.2 from hq)]
            refine ⟨_, _, rfl, rfl, fun e' h' => ?_⟩
            rw [List.take_add_one, hd] at h'
            rcases List.mem_append.mp h' with h' | h'
            · exact hal e' h'
            · cases List.mem_singleton.mp h'
              exact hq
          · rw [decide_eq_false (show ¬ byF (lowF es d.1.sum) (highF es d.1.sum) (d.1.getD 1 0) = d.2 from hq)]
            refine (q _ s12).1 ?_
            unfold bdOk
            rw [hp, Bool.true_and, List.all_eq_false]
            exact ⟨d, hdm, by simpa using hq⟩
        · rintro σ H' ⟨o2, o3, rfl, rfl, hal⟩
          rw [show es.take xs.length = es by rw [lx]; exact List.take_length] at hal
          refine ⟨_, rfl, ?_⟩
          refine ⟨D, ys, rfl, .inl ⟨SqL.of e2, fun l hl => ?_⟩⟩
          refine (q _ (s12.trans (Same.upd hl))).2 ?_ _ ?_
          · unfold bdOk
            rw [hp, Bool.true_and, List.all_eq_true]
            exact fun d hd => decide_eq_true (hal d hd)
          · exact Rep.tup upd_same (ry.same (Same.upd hl))
    · rw [Bool.not_eq_true] at hp
      rw [hp]
      exact (q H1 s1).1 (by unfold bdOk; rw [hp]; rfl)
end
end Kw
set_option Elab.async false
set_option linter.all false
set_option maxRecDepth 100000
namespace Kw
open PySem L2 Mf
abbrev s__law_place : Stmt := (top 20)
theorem sc__law_place : FnScope ["_law_pair", "_law_seen"] ["_law_pair", "_law_seen"] (defScope s__law_place) := ⟨rfl, rfl, rfl, by decide +kernel, rfl, by decide +kernel, by decide +kernel⟩
abbrev s__law_pair_right : Stmt := (top 22)
theorem sc__law_pair_right : FnScope ["_law_rule_here", "_law_k", "_law_pair", "_law_counts", "_law_says_here"] ["_law_rule_here", "_law_k", "_law_pair"] (defScope s__law_pair_right) := ⟨rfl, rfl, rfl, by decide +kernel, rfl, by decide +kernel, by decide +kernel⟩
/-! ### the law's own side of bounds -/
def plF (l h s : Int) : Int := if s ≤ l then 1 else if s ≥ h then 2 else 0
theorem plF_in (l h s : Int) : 0 ≤ plF l h s ∧ plF l h s ≤ 2 := by
  unfold plF; split
  · (first | lia | omega)
  · split <;> (first | lia | omega)
@[irreducible] def sp_lplace (K : PySem.W.Frag) : Sp := fun vs H Q _ => ∃ (p : Addr) (l h s : Int), vs = [.ref p, .int s] ∧ SqT K H p [.int l, .int h] ∧ Q (.int (plF l h s)) H
theorem sp_lplace_i {K : PySem.W.Frag} {H : Hp} {Q : VK} {E : XK} {p : Addr} {l h s : Int} (h1 : SqT K H p [.int l, .int h]) (q : Q (.int (plF l h s)) H) : sp_lplace K [.ref p, .int s] H Q E := by
  unfold sp_lplace; exact ⟨p, l, h, s, rfl, h1, q⟩
def sy3B (a b c : Int) : Bool := !decide (0 < a + (b + (c + 0))) || (let s := a + (b + (c + 0)); let fs : List Fr := [lw a s, lw b s, lw c s]; (decide (lw a s = (1, 1)) == decide (fs = f0)) && (decide (lw b s = (1, 1)) == decide (fs = f1)) && (decide (lw c s = (1, 1)) == decide (fs = f2)))
theorem sy3_all : ∀ a b c : Fin 8, sy3B (a.val : Int) (b.val : Int) (c.val : Int) = true := by decide +kernel
theorem sy3 {fs : List Fr} (h : SyOk 3 fs) : (fs.getD 0 (0, 1) = (1, 1) ↔ fs = f0) ∧ (fs.getD 1 (0, 1) = (1, 1) ↔ fs = f1) ∧ (fs.getD 2 (0, 1) = (1, 1) ↔ fs = f2) := by
  obtain ⟨ns, hl, h7, h0, rfl⟩ := h.ex
  match ns, hl with
  | [a, b, c], _ =>
    have ha := h7 a (by simp)
    have hb := h7 b (by simp)
    have hc := h7 c (by simp)
    have := sy3_all ⟨a.toNat, by (first | lia | omega)⟩ ⟨b.toNat, by (first | lia | omega)⟩ ⟨c.toNat, by (first | lia | omega)⟩
    rw [show ((a.toNat : Nat) : Int) = a by (first | lia | omega), show ((b.toNat : Nat) : Int) = b by (first | lia | omega), show ((c.toNat : Nat) : Int) = c by (first | lia | omega)] at this
    have h0' : 0 < a + (b + (c + 0)) := h0
    unfold sy3B at this
    rw [decide_eq_true h0', Bool.not_true, Bool.false_or, Bool.and_eq_true, Bool.and_eq_true] at this
    obtain ⟨⟨t0, t1⟩, t2⟩ := this
    exact ⟨decide_eq_decide.mp (eq_of_beq t0), decide_eq_decide.mp (eq_of_beq t1), decide_eq_decide.mp (eq_of_beq t2)⟩
def prE (k l h : Int) (e : Ent) : Bool := !decide (e.1.sum = k) || decide (e.2.getD (plF l h (c1 e)).toNat (0, 1) = (1, 1))
def prOk (es : List Ent) (k l h : Int) : Bool := es.all (prE k l h)
@[irreducible] def sp_lpair : Sp := fun vs H Q _ => ∃ (x : V) (p : Addr) (es : List Ent) (k l h : Int), vs = [x, .int k, .ref p] ∧ Rep H (ruD es) x ∧ BuOk es ∧ H p = some (.tup [.int l, .int h]) ∧ ∀ H', Same H H' → Q (.bl (prOk es k l h)) H'
theorem sp_lpair_i {H : Hp} {Q : VK} {E : XK} {x : V} {p : Addr} {es : List Ent} {k l h : Int} (h1 : Rep H (ruD es) x) (h2 : BuOk es) (h3 : H p = some (.tup [.int l, .int h])) (q : ∀ H', Same H H' → Q (.bl (prOk es k l h)) H') : sp_lpair [x, .int k, .ref p] H Q E := by
  unfold sp_lpair; exact ⟨x, p, es, k, l, h, rfl, h1, h2, h3, q⟩
section
variable {P : Program} {w : World} {K : PySem.W.Frag} {mg : Str → Option Value} {base : Heap} {c : Cl}
set_option maxHeartbeats 4000000 in
theorem ok__law_place {f : Addr} {fd : FuncData} (F : Fun K "_law_place" "_law_place" s__law_place f fd) (T : Txt K mg c) : FnOk P w K mg base CX0 1 f fd ["_law_pair", "_law_seen"] (sp_lplace K) := by
  refine F.okw sc__law_place (fun vs H Q E h => ?_) (fun cdv A outer s H vs Q E hr h => ?_)
  · unfold sp_lplace at h
    obtain ⟨p, l, h, z, rfl, _⟩ := h
    rfl
  · unfold sp_lplace at h
    obtain ⟨p, l, h, z, rfl, hp, q⟩ := h
    refine ⟨_, (wss_cons (ws_if (wt_cmp op_le (we_v 1) (we_ix ix_seq (we_v 0) we_int (fun _ _ => rfl)) (nomark _)) (wss_one (ws_ret we_int)) wss_nil)
      (wss_one (ws_ret (we_ifExp (wt_cmp op_ge (we_v 1) (we_ix ix_seq (we_v 0) we_int (fun _ _ => rfl)) (nomark _)) we_int we_int)))), ?_⟩
    refine ⟨_, rfl, _, rfl, ?_⟩
    refine ixK hp rfl ?_
    refine ⟨_, _, rfl, rfl, _, rfl, ?_⟩
    unfold plF at q
    by_cases h1 : z ≤ l
    · rw [decide_eq_true h1]
      rw [if_pos h1] at q
      exact q
    · rw [decide_eq_false h1]
      rw [if_neg h1] at q
      refine ⟨_, rfl, _, rfl, ?_⟩
      refine ixK hp rfl ?_
      refine ⟨_, _, rfl, rfl, _, rfl, ?_⟩
      by_cases h2 : h ≤ z
      · rw [decide_eq_true h2]
        rw [if_pos h2] at q
        exact q
      · rw [decide_eq_false h2]
        rw [if_neg h2] at q
        exact q
set_option maxHeartbeats 4000000 in
theorem ok__law_pair_right {f : Addr} {fd : FuncData} (F : Fun K "_law_pair_right" "_law_pair_right" s__law_pair_right f fd) (T : Txt K mg c) (F__law_place : FnC CX0 P w K mg base 1 "_law_place" ["_law_pair", "_law_seen"] (sp_lplace K)) : FnOk P w K mg base CX0 2 f fd ["_law_rule_here", "_law_k", "_law_pair"] sp_lpair := by
  refine F.okw sc__law_pair_right (fun vs H Q E h => ?_) (fun cdv A outer s H vs Q E hr h => ?_)
  · unfold sp_lpair at h
    obtain ⟨x, p, es, k, l, h, rfl, _⟩ := h
    rfl
  · unfold sp_lpair at h
    obtain ⟨x, p, es, k, l, h, rfl, rx, BO, hp, q⟩ := h
    obtain ⟨a, xs, rfl, ha, rxs⟩ := ruD_at rx
    have lx : xs.length = es.length := by rw [rxs.len, List.length_map]
    refine ⟨_, (wss_cons (ws_for PassesOwn.never rfl (wi_tup (we_v 0)) (wg_tup rfl (wgs_cons (wg_name (i := 3) sc__law_pair_right.nd rfl (Or.inl rfl)) (wgs_cons (wg_name (i := 4) sc__law_pair_right.nd rfl (Or.inl rfl)) wgs_nil))) (wss_one (ws_if (wt_mono (wt_w (ww_and (wt_cmp op_eq (we_cB (cl_sumT K rfl) (by rfl) T.b_sum (by decide +kernel) (wa_k (we_v 3) wa_nil)) (we_v 1) (nomark _)) (ww_and1 (wt_cmp (op_neK K hr.units) (we_ix ix_seq (we_v 4) (we_fn F__law_place (hr.mono (by decide)) (wa_k (we_v 2) (wa_k (we_ix ix_seq (we_v 3) we_int (fun _ _ => rfl)) wa_nil))) (fun _ _ => rfl)) (we_tup (wa_k we_int (wa_k we_int wa_nil))) (nomark _)))))) (wss_one (ws_ret we_bl)) wss_nil)))
      (wss_one (ws_ret we_bl))), ?_⟩
    refine ⟨_, rfl, a, rfl, ⟨_, SqT.of ha⟩, ?_⟩
    refine for_tup (xs := xs) (fun i σ H' => ∃ o3 o4 : Option V, σ = [some (.ref a), some (.int k), some (.ref p), o3, o4] ∧ Same H H' ∧ ∀ d ∈ es.take i, prE k l h d = true) ⟨_, _, rfl, Same.refl _, fun d h => by simp at h⟩ (fun i σ H' _ q => ?_) ?_ ?_
    · obtain ⟨_, _, _, s', _⟩ := q
      exact SqT.of (s' _ _ ha)
    · rintro i x σ H' hx ⟨o3, o4, rfl, s', hal⟩
      obtain ⟨d, hd, rd⟩ := (rxs.same s').atI hx
      have hdm := List.mem_of_getElem? hd
      obtain ⟨hl, hnn, h8, hsy⟩ := BO.each d hdm
      obtain ⟨b, u, v, rfl, hb, ru, rv⟩ := enD_at rd
      obtain ⟨cu, rfl, hcu⟩ := ctD_at ru
      obtain ⟨av, vs, rfl, hav, rvs⟩ := shD_at rv
      refine ⟨b, [.ref cu, .ref av], rfl, SqT.of hb, rfl, .ref cu, [.ref av], rfl, .ref av, [], rfl, rfl, ?_⟩
      refine ⟨fun t H3 => t = !prE k l h d ∧ Same H' H3, ?_, ?_⟩
      · refine ⟨_, rfl, ?_⟩
        refine rsT (SqT.of hcu) ?_
        refine ⟨_, rfl, rfl, _, rfl, ?_⟩
        show (if decide (V.int d.1.sum = V.int k) = true then _ else _)
        by_cases hs : d.1.sum = k
        · rw [if_pos (by simp [hs])]
          have l3 : d.2.length = 3 := by
            obtain ⟨ns, hn, _, _, e⟩ := hsy.ex
            rw [e, List.length_map, hn]
          obtain ⟨p0, p2⟩ := plF_in l h (d.1.getD 1 0)
          obtain ⟨j, hj⟩ : ∃ j : Nat, plF l h (d.1.getD 1 0) = (j : Int) := ⟨_, (Int.toNat_of_nonneg p0).symm⟩
          have hg : d.2[j]? = some (d.2.getD j (0, 1)) := by rw [List.getD_eq_getElem?_getD, List.getElem?_eq_getElem (by (first | lia | omega))]; rfl
          obtain ⟨y, hy, ry⟩ := RepL.get' rvs (i := j) (d := frD (d.2.getD j (0, 1))) (by rw [List.getElem?_map, hg]; rfl)
          refine ⟨_, rfl, _, rfl, _, rfl, ?_⟩
          refine ixT hcu (at_one hl) ?_
          refine sp_lplace_i (SqT.of (s' _ _ hp)) ?_
          rw [hj]
          refine ixT hav (atI_nat hy) ?_
          refine nwT (Nat.le_of_ble_eq_true rfl) fun r H4 _ hr4 s4 => ?_
          refine reK (Rep.k (ry.same s4)) (Rep.k (frD_of (f := (1, 1)) hr4)) rfl rfl ?_
          refine ⟨_, rfl, ?_, s4⟩
          rw [eqv_fr]
          unfold prE c1
          rw [hj, Int.toNat_natCast, decide_eq_true hs, Bool.not_true, Bool.false_or]
          cases decide (d.2.getD j (0, 1) = (1, 1)) <;> rfl
        · rw [if_neg (by simp [hs])]
          refine ⟨?_, Same.refl _⟩
          unfold prE
          rw [decide_eq_false hs]; rfl
      · rintro t H3 ⟨rfl, s3⟩
        cases hq : prE k l h d with
        | false =>
          have := q H3 (s'.trans s3)
          rw [show prOk es k l h = false from List.all_eq_false.mpr ⟨d, hdm, by rw [hq]; decide⟩] at this
          exact this
        | true =>
          refine ⟨_, _, rfl, s'.trans s3, fun e' h' => ?_⟩
          rw [List.take_add_one, hd] at h'
          rcases List.mem_append.mp h' with h' | h'
          · exact hal e' h'
          · cases List.mem_singleton.mp h'
            exact hq
    · rintro σ H' ⟨o3, o4, rfl, s', hal⟩
      rw [show es.take xs.length = es by rw [lx]; exact List.take_length] at hal
      have := q H' s'
      rw [show prOk es k l h = true from List.all_eq_true.mpr hal] at this
      exact this
end
end Kw
set_option Elab.async false
set_option linter.all false
set_option maxRecDepth 100000
namespace Kw
open PySem L2 Mf
/-! ### the closest bounds fit where any do -/
theorem low_fold (k : Int) : ∀ (es : List Ent) (z : Int), z ≤ es.foldl (lowS k) z ∧ (∀ e ∈ es, e.1.sum = k → e.2 = f1 → c1 e ≤ es.foldl (lowS k) z) ∧ (es.foldl (lowS k) z = z ∨ ∃ e ∈ es, e.1.sum = k ∧ e.2 = f1 ∧ c1 e = es.foldl (lowS k) z)
  | [], z => ⟨Int.le_refl _, fun e h => by simp at h, .inl rfl⟩
  | d :: es, z => by
    obtain ⟨h1, h2, h3⟩ := low_fold k es (lowS k z d)
    rw [List.foldl_cons]
    have hz : z ≤ lowS k z d ∧ (d.1.sum = k → d.2 = f1 → c1 d ≤ lowS k z d) ∧ (lowS k z d = z ∨ (d.1.sum = k ∧ d.2 = f1 ∧ c1 d = lowS k z d)) := by
      unfold lowS
      by_cases q : d.1.sum = k ∧ d.2 = f1
      · rw [if_pos q]
        by_cases r : c1 d > z
        · rw [if_pos r]; exact ⟨by (first | lia | omega), fun _ _ => by (first | lia | omega), .inr ⟨q.1, q.2, rfl⟩⟩
        · rw [if_neg r]; exact ⟨by (first | lia | omega), fun _ _ => by (first | lia | omega), .inl rfl⟩
      · rw [if_neg q]; exact ⟨by (first | lia | omega), fun a b => absurd ⟨a, b⟩ q, .inl rfl⟩
    obtain ⟨z1, z2, z3⟩ := hz
    refine ⟨Int.le_trans z1 h1, fun e he a b => ?_, ?_⟩
    · rcases List.mem_cons.mp he with rfl | he
      · exact Int.le_trans (z2 a b) h1
      · exact h2 e he a b
    · rcases h3 with h3 | ⟨e, he, a⟩
      · rcases z3 with z3 | z3
        · exact .inl (h3.trans z3)
        · exact .inr ⟨d, List.mem_cons_self, z3.1, z3.2.1, z3.2.2.trans h3.symm⟩
      · exact .inr ⟨e, List.mem_cons_of_mem _ he, a⟩
theorem high_fold (k : Int) : ∀ (es : List Ent) (z : Int), es.foldl (highS k) z ≤ z ∧ (∀ e ∈ es, e.1.sum = k → e.2 = f2 → es.foldl (highS k) z ≤ c1 e) ∧ (es.foldl (highS k) z = z ∨ ∃ e ∈ es, e.1.sum = k ∧ e.2 = f2 ∧ c1 e = es.foldl (highS k) z)
  | [], z => ⟨Int.le_refl _, fun e h => by simp at h, .inl rfl⟩
  | d :: es, z => by
    obtain ⟨h1, h2, h3⟩ := high_fold k es (highS k z d)
    rw [List.foldl_cons]
    have hz : highS k z d ≤ z ∧ (d.1.sum = k → d.2 = f2 → highS k z d ≤ c1 d) ∧ (highS k z d = z ∨ (d.1.sum = k ∧ d.2 = f2 ∧ c1 d = highS k z d)) := by
      unfold highS
      by_cases q : d.1.sum = k ∧ d.2 = f2
      · rw [if_pos q]
        by_cases r : c1 d < z
        · rw [if_pos r]; exact ⟨by (first | lia | omega), fun _ _ => by (first | lia | omega), .inr ⟨q.1, q.2, rfl⟩⟩
        · rw [if_neg r]; exact ⟨by (first | lia | omega), fun _ _ => by (first | lia | omega), .inl rfl⟩
      · rw [if_neg q]; exact ⟨by (first | lia | omega), fun a b => absurd ⟨a, b⟩ q, .inl rfl⟩
    obtain ⟨z1, z2, z3⟩ := hz
    refine ⟨Int.le_trans h1 z1, fun e he a b => ?_, ?_⟩
    · rcases List.mem_cons.mp he with rfl | he
      · exact Int.le_trans h1 (z2 a b)
      · exact h2 e he a b
    · rcases h3 with h3 | ⟨e, he, a⟩
      · rcases z3 with z3 | z3
        · exact .inl (h3.trans z3)
        · exact .inr ⟨d, List.mem_cons_self, z3.1, z3.2.1, z3.2.2.trans h3.symm⟩
      · exact .inr ⟨e, List.mem_cons_of_mem _ he, a⟩
theorem c1_in {e : Ent} (hl : e.1.length = 2) (hn : ∀ x ∈ e.1, 0 ≤ x) : 0 ≤ c1 e ∧ c1 e ≤ e.1.sum := by
  obtain ⟨cs, ss⟩ := e
  match cs, hl, hn with
  | [a, b], _, hn =>
    have ha := hn a (by simp)
    have hb := hn b (by simp)
    show 0 ≤ b ∧ b ≤ a + (b + 0)
    (first | lia | omega)
/-- a place that a pair of bounds tells is where the says has one -/
theorem prE_by {l h : Int} {e : Ent} (hsy : SyOk 3 e.2) : e.2.getD (plF l h (c1 e)).toNat (0, 1) = (1, 1) ↔ byF l h (c1 e) = e.2 := by
  obtain ⟨t0, t1, t2⟩ := sy3 hsy
  unfold plF byF
  by_cases h1 : c1 e ≤ l
  · rw [if_pos h1, if_pos h1]; exact t1.trans eq_comm
  · rw [if_neg h1, if_neg h1]
    by_cases h2 : c1 e ≥ h
    · rw [if_pos h2, if_pos h2]; exact t2.trans eq_comm
    · rw [if_neg h2, if_neg h2]; exact t0.trans eq_comm
theorem f1_f2 : f1 ≠ f2 := by decide
theorem f0_f1 : f0 ≠ f1 := by decide
theorem f0_f2 : f0 ≠ f2 := by decide
/-- bounds in their box that fit at k looks make the closest ones fit -/
theorem fit_closest {es : List Ent} (B : BuOk es) {k l h : Int} (h1 : -1 ≤ l) (h2 : l < h) (h3 : h ≤ k + 1) (hp : prOk es k l h = true) : ∀ e ∈ es, e.1.sum = k → byF (lowF es k) (highF es k) (c1 e) = e.2 := by
  have hb : ∀ e ∈ es, e.1.sum = k → byF l h (c1 e) = e.2 := fun e he hk => by
    have := List.all_eq_true.mp hp e he
    unfold prE at this
    rw [decide_eq_true hk, Bool.not_true, Bool.false_or, decide_eq_true_eq] at this
    exact (prE_by (B.each e he).2.2.2).mp this
  obtain ⟨a1, a2, a3⟩ := low_fold k es (-1)
  obtain ⟨b1, b2, b3⟩ := high_fold k es (k + 1)
  have hlo : lowF es k ≤ l := by
    rcases a3 with a3 | ⟨e, he, q1, q2, q3⟩
    · unfold lowF; (first | lia | omega)
    · have := hb e he q1
      rw [q2] at this
      unfold byF at this
      by_cases r : c1 e ≤ l
      · unfold lowF; (first | lia | omega)
      · rw [if_neg r] at this
        by_cases r2 : c1 e ≥ h
        · rw [if_pos r2] at this; exact absurd this.symm f1_f2
        · rw [if_neg r2] at this; exact absurd this f0_f1
  have hhi : h ≤ highF es k := by
    rcases b3 with b3 | ⟨e, he, q1, q2, q3⟩
    · unfold highF; (first | lia | omega)
    · have := hb e he q1
      rw [q2] at this
      unfold byF at this
      by_cases r : c1 e ≤ l
      · rw [if_pos r] at this; exact absurd this f1_f2
      · rw [if_neg r] at this
        by_cases r2 : c1 e ≥ h
        · unfold highF; (first | lia | omega)
        · rw [if_neg r2] at this; exact absurd this f0_f2
  intro e he hk
  have := hb e he hk
  unfold byF at this ⊢
  by_cases r : c1 e ≤ l
  · rw [if_pos r] at this
    have := a2 e he hk this.symm
    rw [if_pos (show c1 e ≤ lowF es k from this)]; assumption
  · rw [if_neg r] at this
    rw [if_neg (show ¬ c1 e ≤ lowF es k by (first | lia | omega))]
    by_cases r2 : c1 e ≥ h
    · rw [if_pos r2] at this
      have := b2 e he hk this.symm
      rw [if_pos (show c1 e ≥ highF es k from this)]; assumption
    · rw [if_neg r2] at this
      rw [if_neg (show ¬ c1 e ≥ highF es k by (first | lia | omega))]; exact this
/-- the closest bounds, where they fit, stand in the box and are let by -/
theorem closest_fit {es : List Ent} (B : BuOk es) (hb : bdOk es = true) {k : Int} (hk : 0 ≤ k) : -1 ≤ lowF es k ∧ lowF es k ≤ k ∧ lowF es k < highF es k ∧ highF es k ≤ k + 1 ∧ prOk es k (lowF es k) (highF es k) = true := by
  unfold bdOk at hb
  rw [Bool.and_eq_true] at hb
  have hf : ∀ e ∈ es, byF (lowF es e.1.sum) (highF es e.1.sum) (c1 e) = e.2 := fun e he => of_decide_eq_true (List.all_eq_true.mp hb.2 e he)
  obtain ⟨a1, a2, a3⟩ := low_fold k es (-1)
  obtain ⟨b1, b2, b3⟩ := high_fold k es (k + 1)
  have lk : lowF es k ≤ k := by
    rcases a3 with a3 | ⟨e, he, q1, q2, q3⟩
    · unfold lowF; (first | lia | omega)
    · have := c1_in (B.each e he).1 (B.each e he).2.1
      unfold lowF; (first | lia | omega)
  refine ⟨a1, lk, ?_, b1, List.all_eq_true.mpr fun e he => ?_⟩
  · rcases b3 with b3 | ⟨e, he, q1, q2, q3⟩
    · unfold highF; (first | lia | omega)
    · have := hf e he
      rw [q1, q2] at this
      unfold byF at this
      by_cases r : c1 e ≤ lowF es k
      · rw [if_pos r] at this; exact absurd this f1_f2
      · unfold highF; (first | lia | omega)
  · unfold prE
    by_cases q : e.1.sum = k
    · have := hf e he
      rw [q] at this
      rw [decide_eq_true ((prE_by (B.each e he).2.2.2).mpr this), Bool.or_true]
    · rw [decide_eq_false q]; rfl
end Kw
set_option Elab.async false
set_option linter.all false
set_option maxRecDepth 100000
namespace Kw
open PySem L2 Mf
abbrev s__law_bounds : Stmt := (top 19)
theorem sc__law_bounds : FnScope ["_law_tape_here", "_law_most", "_law_found", "_law_k", "_law_low", "_law_high"] ["_law_tape_here", "_law_most"] (defScope s__law_bounds) := ⟨rfl, rfl, rfl, by decide +kernel, rfl, by decide +kernel, by decide +kernel⟩
abbrev s__law_by : Stmt := (top 21)
theorem sc__law_by : FnScope ["_law_bounds_here", "_law_found", "_law_level", "_law_last", "_law_k", "_law_later", "_law_seen", "_law_place_here"] ["_law_bounds_here"] (defScope s__law_by) := ⟨rfl, rfl, rfl, by decide +kernel, rfl, by decide +kernel, by decide +kernel⟩
/-! ### bounds that the law draws, and the rule by them -/
@[irreducible] def sp_bnds : Sp := fun vs H Q _ => ∃ (p : Addr) (n M : Nat), vs = [.ref p, .int (M : Int)] ∧ TapeAt H p (n + 64) ∧ M ≤ 8 ∧ ∀ v bs H', TapeAt H' p n → SameBut p H H' → Rep H' (shD bs) v → bs.length = M + 1 → Q v H'
theorem sp_bnds_i {H : Hp} {Q : VK} {E : XK} {p : Addr} {n M : Nat} (F : TapeAt H p (n + 64)) (h : M ≤ 8) (k : ∀ v bs H', TapeAt H' p n → SameBut p H H' → Rep H' (shD bs) v → bs.length = M + 1 → Q v H') : sp_bnds [.ref p, .int (M : Int)] H Q E := by
  unfold sp_bnds; exact ⟨p, n, M, rfl, F, h, k⟩
theorem inV_ints {z : Int} : ∀ {ns : List Int}, inV (.int z) (ns.map V.int) = decide (z ∈ ns)
  | [] => by simp [inV]
  | n :: ns => by
    have ih := inV_ints (z := z) (ns := ns)
    unfold inV at ih ⊢
    rw [List.map_cons, List.any_cons, ih]
    show (n == z || decide (z ∈ ns)) = _
    rw [Bool.beq_eq_decide_eq]
    by_cases h : n = z
    · simp [h]
    · simp [h, Ne.symm h]
theorem flat_ints (ns : List Int) : (ns.map V.int).all flatV = true := by
  rw [List.all_eq_true]; intro x hx; obtain ⟨n, _, rfl⟩ := List.mem_map.mp hx; rfl
/-- entries so far, of at most k looks -/
structure ByTo (k : Nat) (es : List Ent) : Prop where
  each : ∀ e ∈ es, e.1.length = 2 ∧ (∀ x ∈ e.1, 0 ≤ x) ∧ e.1.sum < (k : Int) ∧ SyOk 3 e.2
  asc : (es.map fun e => e.1.sum).Pairwise (· ≤ ·)
theorem ByTo.mono {k j : Nat} {es : List Ent} (h : ByTo k es) (hj : k ≤ j) : ByTo j es := ⟨fun e he => ⟨(h.each e he).1, (h.each e he).2.1, by have := (h.each e he).2.2.1; (first | lia | omega), (h.each e he).2.2.2⟩, h.asc⟩
theorem ByTo.snoc {k : Nat} {es : List Ent} (h : ByTo (k + 1) es) {s : Int} {fs : List Fr} (h0 : 0 ≤ s) (h1 : s ≤ (k : Int)) (hs : SyOk 3 fs) : ByTo (k + 1) (es ++ [([(k : Int) - s, s], fs)]) := by
  refine ⟨fun e he => ?_, ?_⟩
  · rcases List.mem_append.mp he with he | he
    · exact h.each e he
    · cases List.mem_singleton.mp he
      refine ⟨rfl, fun x hx => ?_, ?_, hs⟩
      · rcases List.mem_cons.mp hx with rfl | hx
        · (first | lia | omega)
        · cases List.mem_singleton.mp hx; exact h0
      · show (k : Int) - s + (s + 0) < ((k + 1 : Nat) : Int)
        (first | lia | omega)
  · rw [List.map_append]
    refine List.pairwise_append.mpr ⟨h.asc, List.pairwise_singleton _ _, fun a ha b hb => ?_⟩
    obtain ⟨e, he, rfl⟩ := List.mem_map.mp ha
    cases List.mem_singleton.mp hb
    have := (h.each e he).2.2.1
    show e.1.sum ≤ (k : Int) - s + (s + 0)
    (first | lia | omega)
theorem ms_shaped (ms : List Int) : SeqAt.shaped (.list (ms.map PyData.int)) = true := by
  unfold SeqAt.shaped
  rw [show PyData.canLay0 (.list (ms.map PyData.int)) = PyData.canLayAll0 (ms.map .int) from rfl, layIs, Bool.true_and, decide_eq_true_eq]
  have := depIs ms
  simp only [PyData.depth]
  (first | lia | omega)
/-- seconds of a level: each once, from nought to k -/
structure LsOk (k : Nat) (ls : List Int) : Prop where
  nd : ls.Nodup
  each : ∀ s ∈ ls, 0 ≤ s ∧ s ≤ (k : Int)
theorem LsOk.len {k : Nat} {ls : List Int} (h : LsOk k ls) : ls.length ≤ k + 1 := by
  have := nodup_len h.nd (m := (List.range (k + 1)).map fun i : Nat => (i : Int)) fun s hs => by
    have := h.each s hs
    exact List.mem_map.mpr ⟨s.toNat, List.mem_range.mpr (by (first | lia | omega)), by (first | lia | omega)⟩
  rwa [List.length_map, List.length_range] at this
theorem LsOk.perm {k : Nat} {ls ms : List Int} (h : LsOk k ls) (p : ms.Perm ls) : LsOk k ms := ⟨p.nodup_iff.mpr h.nd, fun s hs => h.each s (p.mem_iff.mp hs)⟩
theorem LsOk.more {k : Nat} {ls : List Int} (h : LsOk (k + 1) ls) {s : Int} (h0 : 0 ≤ s) (h1 : s ≤ (k : Int)) : LsOk (k + 1) (ls ++ [s, s + 1].filter fun c => !decide (c ∈ ls)) := by
  refine ⟨List.nodup_append.mpr ⟨h.nd, List.Pairwise.filter _ (by simp; (first | lia | omega)), fun a ha b hb e => ?_⟩, fun c hc => ?_⟩
  · subst e
    have := (List.mem_filter.mp hb).2
    simp [ha] at this
  · rcases List.mem_append.mp hc with hc | hc
    · exact h.each c hc
    · rcases List.mem_cons.mp (List.mem_filter.mp hc).1 with rfl | hc
      · (first | lia | omega)
      · cases List.mem_singleton.mp hc; (first | lia | omega)
@[irreducible] def sp_by : Sp := fun vs H Q _ => ∃ (x : V) (bs : List Fr), vs = [x] ∧ Rep H (shD bs) x ∧ 0 < bs.length ∧ bs.length ≤ 9 ∧ ∀ q v b es H', Same H H' → H' q = some (.tup [v, .bl b]) → Rep H' (ruD es) v → BuOk es → Q (.ref q) H'
theorem sp_by_i {H : Hp} {Q : VK} {E : XK} {x : V} {bs : List Fr} (h1 : Rep H (shD bs) x) (h2 : 0 < bs.length) (h3 : bs.length ≤ 9) (k : ∀ q v b es H', Same H H' → H' q = some (.tup [v, .bl b]) → Rep H' (ruD es) v → BuOk es → Q (.ref q) H') : sp_by [x] H Q E := by
  unfold sp_by; exact ⟨x, bs, rfl, h1, h2, h3, k⟩
section
variable {P : Program} {w : World} {K : PySem.W.Frag} {mg : Str → Option Value} {base : Heap} {c : Cl}
set_option maxHeartbeats 4000000 in
theorem ok__law_bounds {f : Addr} {fd : FuncData} (F : Fun K "_law_bounds" "_law_bounds" s__law_bounds f fd) (T : Txt K mg c) (F__law_pick : FnC CX0 P w K mg base 1 "_law_pick" ["_law_tape_here", "_law_many"] sp_pick) : FnOk P w K mg base CX0 2 f fd ["_law_tape_here", "_law_most"] sp_bnds := by
  refine F.okw sc__law_bounds (fun vs H Q E h => ?_) (fun cdv A outer s H vs Q E hr h => ?_)
  · unfold sp_bnds at h
    obtain ⟨p, n, M, rfl, _⟩ := h
    rfl
  · unfold sp_bnds at h
    obtain ⟨p, n, M, rfl, TP, hM, k⟩ := h
    refine ⟨_, (wss_cons (ws_set (i := 2) sc__law_bounds.nd rfl (Or.inl rfl) (we_lst wa_nil))
      (wss_cons (ws_for PassesOwn.never rfl (wi_range1 rfl T.b_range (wa_k (we_op op_add (we_v 1) we_int) wa_nil)) (wg_name (i := 3) sc__law_bounds.nd rfl (Or.inl rfl)) (wss_cons (ws_set (i := 4) sc__law_bounds.nd rfl (Or.inl rfl) (we_op op_sub (we_fn F__law_pick (hr.mono (by decide)) (wa_k (we_v 0) (wa_k (we_op op_add (we_v 3) we_int) wa_nil))) we_int))
      (wss_cons (ws_cut (ws_if (wt_cmp op_eq (we_fn F__law_pick (hr.mono (by decide)) (wa_k (we_v 0) (wa_k we_int wa_nil))) we_int (nomark _)) (wss_one (ws_set (i := 4) sc__law_bounds.nd rfl (Or.inl rfl) (we_un un_neg we_int))) wss_nil))
      (wss_cons (ws_set (i := 5) sc__law_bounds.nd rfl (Or.inl rfl) (we_op op_add (we_op op_add (we_v 4) we_int) (we_fn F__law_pick (hr.mono (by decide)) (wa_k (we_v 0) (wa_k (we_op op_add (we_op op_sub (we_op op_sub (we_op op_add (we_v 3) we_int) (we_v 4)) we_int) we_int) wa_nil)))))
      (wss_cons (ws_set (i := 5) sc__law_bounds.nd rfl (Or.inl rfl) (we_cB (call_min2 rfl) (by rfl) T.b_min (by decide +kernel) (wa_k (we_op op_add (we_v 3) we_int) (wa_k (we_cB (call_max2 rfl) (by rfl) T.b_max (by decide +kernel) (wa_k (we_v 5) (wa_k (we_op op_add (we_v 4) we_int) wa_nil))) wa_nil))))
      (wss_cons (ws_cut (ws_if (wt_cmp op_eq (we_fn F__law_pick (hr.mono (by decide)) (wa_k (we_v 0) (wa_k we_int wa_nil))) we_int (nomark _)) (wss_one (ws_set (i := 5) sc__law_bounds.nd rfl (Or.inl rfl) (we_op op_add (we_v 3) we_int))) wss_nil))
      (wss_cons (ws_cut (ws_if (wt_cmp op_ge (we_v 4) (we_v 5) (nomark _)) (wss_one (ws_set (i := 4) sc__law_bounds.nd rfl (Or.inl rfl) (we_op op_sub (we_v 5) we_int))) wss_nil))
      (wss_cons (ws_cut (ws_if (wt_cmp op_eq (we_v 3) (we_v 1) (nomark _)) (wss_one (ws_set (i := 5) sc__law_bounds.nd rfl (Or.inl rfl) (we_op op_add (we_v 4) we_int))) wss_nil))
      (wss_one (ws_expr (we_bm PySem.F.plainAttrs_list PySem.F.slot_list_append PySem.F.type_list_append mt_app (we_v 2) (wa_k (we_tup (wa_k (we_v 4) (wa_k (we_v 5) wa_nil))) wa_nil))))))))))))
      (wss_one (ws_ret (we_cT call_tuple_of (by rfl) T.b_tuple (by decide +kernel) (wa_k (we_v 2) wa_nil)))))), ?_⟩
    refine nwL (by show 0 ≤ 64; decide) fun fo H1 hfo e1 s1 => ?_
    refine ⟨_, rfl, _, _, rfl, rfl, _, rfl, by (first | lia | omega), by (first | lia | omega), ?_⟩
    rw [show ((M : Int) + 1).toNat = M + 1 by (first | lia | omega)]
    have nfo : fo ≠ p := TP.ne hfo
    refine for_range (fun i σ H' => ∃ (o3 o4 o5 : Option V) (vs : List V) (bs : List Fr), σ = [some (.ref p), some (.int (M : Int)), some (.ref fo), o3, o4, o5] ∧ TapeAt H' p (n + 64 - 4 * i) ∧ SameBut p H H' ∧ H' fo = some (.lst vs) ∧ RepL H' (bs.map frD) vs ∧ bs.length = i) ⟨_, _, _, [], [], rfl, (TP.same s1).less (by (first | lia | omega)), s1.but, e1, RepL.nil, rfl⟩ ?_ ?_
    · rintro i σ H2 hi ⟨o3, o4, o5, vs, bs, rfl, T2, b2, e2, r2, hb⟩
      rw [show (0 : Int) + ((i : Nat) : Int) = (i : Int) by (first | lia | omega)]
      refine ⟨_, rfl, _, rfl, _, _, rfl, rfl, ?_⟩
      refine sp_pick_i (n := n + 63 - 4 * i) (T2.less (by (first | lia | omega))) (by (first | lia | omega)) (bitsle (Nat.lt_of_le_of_lt (show ((i : Int) + 2).natAbs ≤ 10 by (first | lia | omega)) (by decide))) fun x H3 x0 x1 T3 b3 => ?_
      refine ⟨_, _, rfl, rfl, ?_⟩
      refine ⟨fun σ H' => ∃ l : Int, σ = [some (.ref p), some (.int (M : Int)), some (.ref fo), some (.int (i : Int)), some (.int l), o5] ∧ -1 ≤ l ∧ l ≤ (i : Int) ∧ TapeAt H' p (n + 62 - 4 * i) ∧ SameBut p H2 H', ?_, ?_⟩
      · rintro σ H4 ⟨l, rfl, l0, l1, T4, b4⟩
        refine ⟨_, rfl, _, _, rfl, rfl, _, rfl, _, rfl, _, _, rfl, rfl, _, rfl, _, _, rfl, rfl, _, _, rfl, rfl, _, _, rfl, rfl, ?_⟩
        refine sp_pick_i (n := n + 61 - 4 * i) (T4.less (by (first | lia | omega))) (by (first | lia | omega)) (bitsle (Nat.lt_of_le_of_lt (show ((i : Int) + 2 - l - 1 + 1).natAbs ≤ 12 by (first | lia | omega)) (by decide))) fun y H5 y0 y1 T5 b5 => ?_
        refine ⟨_, _, rfl, rfl, ?_⟩
        refine ⟨_, rfl, _, _, rfl, rfl, _, rfl, _, rfl, _, _, rfl, rfl, _, _, rfl, _, _, rfl, ?_⟩
        refine ⟨fun σ H' => ∃ h : Int, σ = [some (.ref p), some (.int (M : Int)), some (.ref fo), some (.int (i : Int)), some (.int l), some (.int h)] ∧ TapeAt H' p (n + 60 - 4 * i) ∧ SameBut p H2 H', ?_, ?_⟩
        · rintro σ H6 ⟨h, rfl, T6, b6⟩
          refine ⟨fun σ H' => ∃ l : Int, σ = [some (.ref p), some (.int (M : Int)), some (.ref fo), some (.int (i : Int)), some (.int l), some (.int h)] ∧ H' = H6, ?_, ?_⟩
          · rintro σ H' ⟨l, rfl, rfl⟩
            refine ⟨fun σ H6 => ∃ h : Int, σ = [some (.ref p), some (.int (M : Int)), some (.ref fo), some (.int (i : Int)), some (.int l), some (.int h)] ∧ H6 = H', ?_, ?_⟩
            · rintro σ H6 ⟨h, rfl, rfl⟩
              have e6 := b6.at nfo e2
              have r6 := r2.flat (T2.t b6) (frs_flat _)
              refine ⟨_, rfl, tyL e6, _, rfl, _, rfl, ?_⟩
              refine nwT (by show 2 ≤ 64; decide) fun q7 H7 hq7 e7 s7 => ?_
              refine appL (s7 _ _ e6) (by rw [r6.len, List.length_map]; (first | lia | omega)) fun H8 e8 b8 => ?_
              have t8 := b8.t (s7 _ _ e6)
              refine ⟨_, _, _, _, bs ++ [(l, h)], rfl, ((T6.same s7).but b8 nfo).less (by (first | lia | omega)), SameBut.thru hfo ((b2.trans b6).trans s7.but) b8, e8, ?_, by rw [List.length_append, hb]; rfl⟩
              rw [List.map_append]
              exact RepL.snoc (r6.flat (s7.t.trans t8) (frs_flat _)) (Rep.flat t8 (frD_flat _) (frD_of (f := (l, h)) e7))
            · refine ⟨_, rfl, _, rfl, rfl, _, rfl, ?_⟩
              refine iteD (fun _ => ?_) (fun _ => ?_)
              · exact ⟨_, rfl, _, _, rfl, rfl, _, rfl, rfl⟩
              · exact ⟨_, rfl, rfl⟩
          · refine ⟨_, rfl, _, rfl, _, _, rfl, rfl, _, rfl, ?_⟩
            refine iteD (fun _ => ?_) (fun _ => ?_)
            · exact ⟨_, rfl, _, _, rfl, rfl, _, rfl, rfl⟩
            · exact ⟨_, rfl, rfl⟩
        · refine ⟨_, rfl, ?_⟩
          refine sp_pick_i (n := n + 60 - 4 * i) (T5.less (by (first | lia | omega))) (by decide) (by decide +kernel) fun z H6 z0 z1 T6 b6 => ?_
          refine ⟨rfl, _, rfl, ?_⟩
          refine iteD (fun _ => ?_) (fun _ => ?_)
          · exact ⟨_, rfl, _, _, rfl, rfl, _, rfl, T6, (b4.trans b5).trans b6⟩
          · exact ⟨_, rfl, T6, (b4.trans b5).trans b6⟩
      · refine ⟨_, rfl, ?_⟩
        refine sp_pick_i (n := n + 62 - 4 * i) (T3.less (by (first | lia | omega))) (by decide) (by decide +kernel) fun y H4 y0 y1 T4 b4 => ?_
        refine ⟨rfl, _, rfl, ?_⟩
        refine iteD (fun e0 => ?_) (fun e0 => ?_)
        · exact ⟨_, rfl, -1, rfl, by (first | lia | omega), by (first | lia | omega), T4, b3.trans b4⟩
        · exact ⟨x - 1, rfl, by (first | lia | omega), by (first | lia | omega), T4, b3.trans b4⟩
    · rintro σ H2 ⟨o3, o4, o5, vs, bs, rfl, T2, b2, e2, r2, hb⟩
      refine ⟨_, rfl, ?_⟩
      refine ⟨fo, vs, rfl, .inl ⟨SqL.of e2, fun l hl => ?_⟩⟩
      have sl := Same.upd (o := .tup vs) hl
      exact k _ bs _ ((T2.same sl).less (by (first | lia | omega))) (b2.trans sl.but) (Rep.tup upd_same (r2.same sl)) hb
set_option maxHeartbeats 4000000 in
theorem ok__law_by {f : Addr} {fd : FuncData} (F : Fun K "_law_by" "_law_by" s__law_by f fd) (T : Txt K mg c) (F__law_place : FnC CX0 P w K mg base 1 "_law_place" ["_law_pair", "_law_seen"] (sp_lplace K)) : FnOk P w K mg base CX0 2 f fd ["_law_bounds_here"] sp_by := by
  refine F.okw sc__law_by (fun vs H Q E h => ?_) (fun cdv A outer s H vs Q E hr h => ?_)
  · unfold sp_by at h
    obtain ⟨x, bs, rfl, _⟩ := h
    rfl
  · unfold sp_by at h
    obtain ⟨x, bs, rfl, rx, hb0, hb9, k⟩ := h
    obtain ⟨ab, xb, rfl, hab, rxb⟩ := shD_at rx
    have lxb : xb.length = bs.length := by rw [rxb.len, List.length_map]
    refine ⟨_, (wss_cons (ws_set (i := 1) sc__law_by.nd rfl (Or.inl rfl) (we_lst wa_nil))
      (wss_cons (ws_set (i := 2) sc__law_by.nd rfl (Or.inl rfl) (we_lst (wa_k we_int wa_nil)))
      (wss_cons (ws_set (i := 3) sc__law_by.nd rfl (Or.inl rfl) we_bl)
      (wss_cons (ws_for PassesOwn.never rfl (wi_range1 rfl T.b_range (wa_k (we_cB cl_len (by rfl) T.b_len (by decide +kernel) (wa_k (we_v 0) wa_nil)) wa_nil)) (wg_name (i := 4) sc__law_by.nd rfl (Or.inl rfl)) (wss_cons (ws_set (i := 5) sc__law_by.nd rfl (Or.inr rfl) (we_lst wa_nil))
      (wss_cons (ws_for PassesOwn.never rfl (wi_list (we_srtR K (by rfl) T.b_sorted (we_v 2) we_bl (fun _ _ _ => Iff.rfl))) (wg_name (i := 6) sc__law_by.nd rfl (Or.inl rfl)) (wss_cons (ws_set (i := 7) sc__law_by.nd rfl (Or.inr rfl) (we_fn F__law_place (hr.mono (by decide)) (wa_k (we_ix ix_seq (we_v 0) (we_v 4) (fun _ _ => rfl)) (wa_k (we_v 6) wa_nil))))
      (wss_cons (ws_expr (we_bm PySem.F.plainAttrs_list PySem.F.slot_list_append PySem.F.type_list_append mt_app (we_v 1) (wa_k (we_tup (wa_k (we_tup (wa_k (we_op op_sub (we_v 4) (we_v 6)) (wa_k (we_v 6) wa_nil))) (wa_k (we_cT call_tuple_of (by rfl) T.b_tuple (by decide +kernel) (wa_k (we_comp (CScope.of (psc := defScope s__law_by) (N := ["_law_bounds_here", "_law_found", "_law_level", "_law_last", "_law_k", "_law_later", "_law_seen", "_law_place_here"]) (N' := ["_law_j", "_law_place_here"]) (js := [7]) (by decide +kernel) rfl rfl rfl) (wi_range1 rfl T.b_range (wa_k we_int wa_nil)) (fun _ _ _ _ => wts_nil) (fun _ _ _ _ => (we_tup (wa_k (we_cT call_int1 (by rfl) T.b_int (by decide +kernel) (wa_k (we_cmp op_eq (we_v 0) (we_v 1) (nomark _)) wa_nil)) (wa_k we_int wa_nil))))) wa_nil)) wa_nil))) wa_nil)))
      (wss_one (ws_if (wt_cmp op_eq (we_v 7) we_int (nomark _)) (wss_one (ws_expr (we_bm PySem.F.plainAttrs_list PySem.F.slot_list_extend PySem.F.type_list_extend mt_ext (we_v 5) (wa_k (we_comp (CScope.of (psc := defScope s__law_by) (N := ["_law_bounds_here", "_law_found", "_law_level", "_law_last", "_law_k", "_law_later", "_law_seen", "_law_place_here"]) (N' := ["_law_one", "_law_later"]) (js := [5]) (by decide +kernel) rfl rfl rfl) (wi_tup (we_tup (wa_k (we_v 6) (wa_k (we_op op_add (we_v 6) we_int) wa_nil)))) (fun _ _ _ _ => wts_one (wt_cmp (op_notInK K) (we_v 0) (we_v 1) (by with_unfolding_all rfl))) (fun _ _ _ _ => (we_v 0))) wa_nil)))) wss_nil)))))
      (wss_cons (ws_set (i := 2) sc__law_by.nd rfl (Or.inl rfl) (we_v 5))
      (wss_one (ws_set (i := 3) sc__law_by.nd rfl (Or.inl rfl) (we_cmp (op_neD hr.units) (we_v 5) (we_lst wa_nil) (nomark _))))))))
      (wss_one (ws_ret (we_tup (wa_k (we_cT call_tuple_of (by rfl) T.b_tuple (by decide +kernel) (wa_k (we_v 1) wa_nil)) (wa_k (we_v 3) wa_nil))))))))), ?_⟩
    refine nwL (by show 0 ≤ 64; decide) fun fo H1 hfo e1 s1 => ?_
    refine nwL (by show 1 ≤ 64; decide) fun le H2 hle e2 s2 => ?_
    refine ⟨_, rfl, ?_⟩
    refine rlT (s2 _ _ (s1 _ _ hab)) ?_
    refine ⟨_, rfl, by (first | lia | omega), by (first | lia | omega), ?_⟩
    rw [lxb, show ((bs.length : Int)).toNat = bs.length by (first | lia | omega)]
    refine for_range (fun i σ H' => ∃ (le : Addr) (b : Bool) (o4 o5 o6 o7 : Option V) (vs : List V) (ls : List Int) (es : List Ent), σ = [some (.ref ab), some (.ref fo), some (.ref le), some (.bl b), o4, o5, o6, o7] ∧ Same H H' ∧ H' fo = some (.lst vs) ∧ RepL H' (es.map enD) vs ∧ H' le = some (.lst (ls.map V.int)) ∧ ByTo i es ∧ LsOk i ls ∧ es.length ≤ 16 * i ∧ (i = 0 → ls ≠ []) ∧ (0 < i → es ≠ [])) ⟨le, false, _, _, _, _, [], [0], [], rfl, s1.trans s2, s2 _ _ e1, RepL.nil, e2, ⟨fun e h => by (cases h), List.Pairwise.nil⟩, ⟨by simp, fun s h => by (cases List.mem_singleton.mp h; (first | lia | omega))⟩, Nat.zero_le _, fun _ h => by (cases h), fun h => by (first | lia | omega)⟩ ?_ ?_
    · clear e1 e2 s1 s2 hle
      rintro i σ H1 hi ⟨le, b, o4, o5, o6, o7, vs, ls, es, rfl, s1, e1, r1, e2, BY, LS, hlen, hl0, hne⟩
      rw [show (0 : Int) + ((i : Nat) : Int) = (i : Int) by (first | lia | omega)]
      refine nwL (by show 0 ≤ 64; decide) fun la H2 hla ela s2 => ?_
      refine ⟨_, rfl, ?_⟩
      have ll := LS.len
      refine rsrtR (s2 _ _ e2) (by (first | lia | omega)) fun so ns H3 hp hso e3 s3 => ?_
      have hfo1 : so ≠ fo := fun e => by subst e; rw [s2 _ _ e1] at hso; cases hso
      have hsl : so ≠ la := fun e => by subst e; rw [ela] at hso; cases hso
      have hlf : la ≠ fo := fun e => by subst e; rw [e1] at hla; cases hla
      have hla0 : H la = none := s1.free hla
      have s23 := s2.trans s3
      have LN := LS.perm hp
      refine ⟨so, rfl, ⟨_, SqL.of e3⟩, ?_⟩
      refine for_list (xs := ns.map V.int) (fun j σ H' => ∃ (o6 o7 : Option V) (vs2 : List V) (ms : List Int) (es2 : List Ent), σ = [some (.ref ab), some (.ref fo), some (.ref le), some (.bl b), some (.int (i : Int)), some (.ref la), o6, o7] ∧ Same H H' ∧ H' so = some (.lst (ns.map V.int)) ∧ H' fo = some (.lst vs2) ∧ RepL H' (es2.map enD) vs2 ∧ H' la = some (.lst (ms.map V.int)) ∧ ByTo (i + 1) es2 ∧ LsOk (i + 1) ms ∧ es2.length = es.length + j)
        ⟨_, _, vs, [], es, rfl, s1.trans s23, e3, s23 _ _ e1, r1.same s23, s3 _ _ ela, BY.mono (Nat.le_succ _), ⟨List.nodup_nil, fun s h => by (cases h)⟩, rfl⟩ (fun j σ H' _ q => ?_) ?_ ?_
      · obtain ⟨_, _, _, _, _, _, _, h, _⟩ := q
        exact SqL.of h
      · clear e1 e2 e3 ela r1 BY s3 s2 s23 hso
        rintro j x σ H2 hx ⟨o6, o7, vs2, ms, es2, rfl, s2, e3, e1, r1, ela, BY, LM, hl2⟩
        rw [List.getElem?_map] at hx
        obtain ⟨z, hz, rfl⟩ := Option.map_eq_some_iff.mp hx
        have hj : j < ns.length := (List.getElem?_eq_some_iff.mp hz).1
        obtain ⟨z0, z1⟩ := LN.each z (List.mem_of_getElem? hz)
        have lns : ns.length ≤ i + 1 := LN.len
        obtain ⟨y, hy, ry⟩ := RepL.atX (rxb.same s2) (i := i) (a := bs[i]) (by simp [hi])
        obtain ⟨pr, rfl, hpr⟩ := frD_at ry
        refine ⟨_, rfl, _, rfl, ?_⟩
        refine ixT (s2 _ _ hab) (atI_nat hy) ?_
        refine ⟨_, rfl, ?_⟩
        refine sp_lplace_i (l := bs[i].1) (h := bs[i].2) (SqT.of hpr) ?_
        obtain ⟨p0, p2⟩ := plF_in bs[i].1 bs[i].2 z
        generalize plF bs[i].1 bs[i].2 z = pl at p0 p2 ⊢
        obtain ⟨pn, rfl⟩ : ∃ pn : Nat, pl = (pn : Int) := ⟨pl.toNat, by (first | lia | omega)⟩
        refine ⟨_, rfl, tyL e1, _, rfl, _, rfl, _, _, rfl, rfl, _, rfl, ?_⟩
        refine nwT (by show 2 ≤ 64; decide) fun q3 H3 hq3 e3' s3 => ?_
        refine ⟨_, rfl, by decide, by decide, ?_⟩
        refine comp_mapR (fun i y H' => ∃ z, (ind pn 3)[i]? = some z ∧ Rep H' (frD (z, 1)) y) (fun i y H1 H2 s ⟨z, h1, h2⟩ => ⟨z, h1, h2.flat s (frD_flat _)⟩) (by decide) (fun i H' Q' hi s' k' => ?_) (fun D ys H4 hD hD4 s4 hy4 hr4 => ?_)
        · refine ⟨_, rfl, _, rfl, rfl, ?_⟩
          refine .inr ⟨_, rfl, ?_⟩
          refine nwT (by show 2 ≤ 64; decide) fun q5 H5 hq5 e5 s5 => ?_
          refine k' _ H5 s5 ⟨_, ind_at hi, ?_⟩
          refine frD_of (f := (if (i : Int) = (pn : Int) then 1 else 0, 1)) ?_
          rw [e5, Int.zero_add]
          by_cases h : (i : Int) = (pn : Int)
          · rw [if_pos h, if_pos (decide_eq_true (congrArg V.int h))]
          · rw [if_neg h, if_neg (by rw [decide_eq_true_eq]; exact fun z => h (by injection z))]
        · refine ⟨D, ys, rfl, .inl ⟨SqL.of hD4, fun l hl => ?_⟩⟩
          have sl := Same.upd (o := .tup ys) hl
          have el : (upd H4 l (.tup ys)) l = some (.tup ys) := upd_same
          generalize upd H4 l (.tup ys) = H5 at sl el
          have rsy : Rep H5 (shD ((ind pn 3).map fun x => (x, 1))) (.ref l) := Rep.tup el (RepL.ofIdx (by rw [hy4, List.length_map, List.length_map, ind_len]; rfl) fun i y hi => by
            obtain ⟨n, h1, h2⟩ := hr4 i y hi
            exact ⟨frD (n, 1), by rw [List.getElem?_map, List.getElem?_map, h1]; rfl, h2.same sl⟩)
          have s35 := (s3.trans s4).trans sl
          have rct : Rep H5 (ctD [(i : Int) - z, z]) (.ref q3) := ctD_of (sl _ _ (s4 _ _ e3'))
          refine nwT (by show 2 ≤ 64; decide) fun q6 H6 hq6 e6 s6 => ?_
          have s36 := s35.trans s6
          have ren : Rep H6 (enD ([(i : Int) - z, z], (ind pn 3).map fun x => (x, 1))) (.ref q6) := Rep.tup e6 (RepL.cons (rct.same s6) (RepL.cons (rsy.same s6) RepL.nil))
          have hvl : vs2.length ≤ 500 := by rw [r1.len, List.length_map]; (first | lia | omega)
          refine appL (s36 _ _ e1) (by (first | lia | omega)) fun H7 e7 b7 => ?_
          have t7 := b7.t (s36 _ _ e1)
          have S7 : Same H H7 := Same.thru hfo (s2.trans s36) b7
          have r7 : RepL H7 ((es2 ++ [([(i : Int) - z, z], (ind pn 3).map fun x => (x, 1))]).map enD) (vs2 ++ [.ref q6]) := by
            rw [List.map_append]
            exact RepL.snoc (r1.flat (s36.t.trans t7) (ens_flat _)) (ren.flat t7 (enD_flat _))
          have ela7 := b7.at hlf (s36 _ _ ela)
          have e37 := b7.at hfo1 (s36 _ _ e3)
          have BY7 := BY.snoc (fs := (ind pn 3).map fun x => (x, 1)) z0 z1 (SyOk.one (by (first | lia | omega)))
          have hl7 : (es2 ++ [([(i : Int) - z, z], (ind pn 3).map fun x => ((x, 1) : Fr))]).length = es.length + (j + 1) := by rw [List.length_append, hl2]; rfl
          clear e6 ren rct rsy e3' hD4 hr4 hy4 el sl s36 s35 s6 s4 s3 b7 t7 hl hq6 hq3 hD BY r1 ela e3 e1
          refine ⟨_, rfl, rfl, _, rfl, ?_⟩
          refine iteD (fun _ => ?_) (fun _ => ?_)
          · refine ⟨_, rfl, tyL ela7, _, rfl, _, rfl, _, _, rfl, rfl, ?_⟩
            refine nwT (by show 2 ≤ 64; decide) fun q8 H8 hq8 e8 s8 => ?_
            refine ⟨q8, rfl, ⟨_, SqT.of e8⟩, ?_⟩
            refine comp_fltJ (g := PyData.int) (as := [z, z + 1]) (fun d => !decide (d ∈ ms)) (Nat.le_of_ble_eq_true rfl) (fun i H' s' hi => ⟨⟨_, ([V.int z, V.int (z + 1)])[i]'hi, SqT.of (s' _ _ e8), by simp⟩, fun x H3 y => ⟨y.1, ?_⟩⟩) (fun H' s' => ⟨_, SqT.of (s' _ _ e8), Nat.le_refl _⟩) (fun x d H' Q' hd rx' s' k' => ?_) (fun x' H' Q' q => ⟨_, rfl, q⟩) (fun D2 ys2 H9 hD2 e9 s9 r9 => ?_)
            · have hx2 := y.2 _ (SqT.of (s' _ _ e8))
              have hi2 : i < 2 := hi
              rcases (show i = 0 ∨ i = 1 by (first | lia | omega)) with rfl | rfl
              · cases hx2; exact ⟨z, rfl, Rep.int _⟩
              · cases hx2; exact ⟨z + 1, rfl, Rep.int _⟩
            · cases (show x = V.int d from rx')
              refine ⟨_, rfl, _, rfl, ?_⟩
              refine ⟨la, _, rfl, .inl (SqL.of (s' _ _ (s8 _ _ ela7))), rfl, flat_ints _, ?_⟩
              refine ⟨_, rfl, ?_⟩
              have := k' H' (Same.refl _)
              rw [show (if true = true then !inV (V.int d) (ms.map V.int) else inV (V.int d) (ms.map V.int)) = !inV (V.int d) (ms.map V.int) from rfl, inV_ints]
              exact this
            · cases RepL_ints r9
              have s89 := s8.trans s9
              have lms := LM.len
              have lf := List.length_filter_le (fun d => !decide (d ∈ ms)) [z, z + 1]
              refine extL (s89 _ _ ela7) e9 (by rw [List.length_map, List.length_map]; have : ([z, z + 1]).length = 2 := rfl; (first | lia | omega)) fun H10 e10 b10 => ?_
              have t10 := b10.t (s89 _ _ ela7)
              refine ⟨_, _, _, ms ++ [z, z + 1].filter (fun d => !decide (d ∈ ms)), _, rfl, Same.thru hla0 (S7.trans s89) b10, b10.at hsl (s89 _ _ e37), b10.at (Ne.symm hlf) (s89 _ _ e7), r7.flat (s89.t.trans t10) (ens_flat _), ?_, BY7, LM.more z0 z1, hl7⟩
              rw [List.map_append]; exact e10
          · exact ⟨_, _, _, ms, _, rfl, S7, e37, e7, r7, ela7, BY7, LM, hl7⟩
      · clear e1 e2 e3 ela r1 BY s3 s2 s23 hso
        rintro σ H2 ⟨o6, o7, vs2, ms, es2, rfl, s2, e3, e1, r1, ela, BY, LM, hl2⟩
        rw [List.length_map] at hl2
        have lns : ns.length = ls.length := hp.length_eq
        refine ⟨_, rfl, _, rfl, ?_⟩
        refine nwL (by show 0 ≤ 64; decide) fun q5 H5 hq5 e5 s5 => ?_
        refine reD (d := .list (ms.map PyData.int)) (d' := .list []) (Rep.lst (s5 _ _ ela) (RepL.ofInts ms)) (Rep.lst e5 RepL.nil) (ms_shaped ms) rfl ?_
        refine ⟨la, _, _, _, _, _, _, ms, es2, rfl, s2.trans s5, s5 _ _ e1, r1.same s5, s5 _ _ ela, BY, LM, by (first | lia | omega), fun h => by (first | lia | omega), fun _ => ?_⟩
        intro h
        rw [h, List.length_nil] at hl2
        by_cases h0 : i = 0
        · exact hl0 h0 (List.eq_nil_of_length_eq_zero (by (first | lia | omega)))
        · exact hne (by (first | lia | omega)) (List.eq_nil_of_length_eq_zero (by (first | lia | omega)))
    · rintro σ H1 ⟨le, b, o4, o5, o6, o7, vs, ls, es, rfl, s1, e1, r1, e2, BY, LS, hlen, hl0, hne⟩
      refine ⟨_, rfl, ?_⟩
      refine ⟨fo, vs, rfl, .inl ⟨SqL.of e1, fun l hl => ?_⟩⟩
      have sl := Same.upd (o := .tup vs) hl
      have el : (upd H1 l (.tup vs)) l = some (.tup vs) := upd_same
      generalize upd H1 l (.tup vs) = H2 at sl el
      refine ⟨_, rfl, ?_⟩
      refine nwT (by show 2 ≤ 64; decide) fun q3 H3 hq3 e3 s3 => ?_
      refine k q3 _ _ es H3 ((s1.trans sl).trans s3) e3 (Rep.tup (s3 _ _ el) ((r1.same sl).same s3)) ⟨hne hb0, fun e he => ?_, BY.asc, by (first | lia | omega)⟩
      obtain ⟨h1, h2, h3, h4⟩ := BY.each e he
      exact ⟨h1, h2, by (first | lia | omega), h4⟩
end
end Kw
set_option Elab.async false
set_option linter.all false
set_option maxRecDepth 100000
namespace Kw
open PySem L2 Mf
abbrev s__law_due : Stmt := (top 23)
theorem sc__law_due : FnScope ["_law_rule_here", "_law_found", "_law_k", "_law_pairs", "_law_low", "_law_some", "_law_here", "_law_high"] ["_law_rule_here"] (defScope s__law_due) := ⟨rfl, rfl, rfl, by decide +kernel, rfl, by decide +kernel, by decide +kernel⟩
/-! ### what is due -/
theorem paired_ints {α : Type} {g : α → Int} : ∀ {as : List α} {ys : List V}, Paired (fun c y => y = V.int (g c)) as ys → ys = (as.map g).map V.int
  | _, _, .nil => rfl
  | _, _, .cons h t => by rw [h, paired_ints t]; rfl
theorem filter_yes {α : Type} (l : List α) : l.filter (fun _ => true) = l := List.filter_eq_self.mpr fun _ _ => rfl
theorem ps_shaped (ps : List Fr) : SeqAt.shaped (.list (ps.map frD)) = true := sh3_shaped ps
theorem eqv_nilF (ps : List Fr) : PyData.eqv (.list (ps.map frD)) (.list []) = decide (ps = []) := by
  cases ps with
  | nil => rfl
  | cons c cs => show PyData.eqvAll (frD c :: cs.map frD) [] = _; simp [PyData.eqvAll]
theorem prs_flat (es : List Ent) (l : List Nat) : flatDs (l.map fun k : Nat => prD (lowF es k) (highF es k)) = true := by
  induction l with
  | nil => rfl
  | cons k l ih => show (flatD (prD (lowF es k) (highF es k)) && flatDs (l.map fun k : Nat => prD (lowF es k) (highF es k))) = true; rw [ih]; rfl
abbrev heD (e : Ent) : PyData := .tuple [.int (c1 e), shD e.2]
theorem heD_flat (e : Ent) : flatD (heD e) = true := by
  show (true && (flatD (shD e.2) && true)) = true
  rw [shD_flat]; rfl
theorem heD_at {H : Hp} {e : Ent} {v : V} (h : Rep H (heD e) v) : ∃ a u, v = .ref a ∧ H a = some (.tup [.int (c1 e), u]) ∧ Rep H (shD e.2) u := by
  unfold Rep at h
  obtain ⟨a, xs, rfl, h1, h2⟩ := h
  unfold RepL at h2
  obtain ⟨x, xs', rfl, r1, h3⟩ := h2
  unfold RepL at h3
  obtain ⟨y, ys', rfl, r2, h4⟩ := h3
  unfold RepL at h4
  cases (show ys' = [] from h4)
  cases (show x = V.int (c1 e) from r1)
  exact ⟨a, y, rfl, h1, r2⟩
theorem said_at {es : List Ent} (B : BuOk es) {e : Ent} (he : e ∈ es) {H : Hp} {u : V} (r : Rep H (shD e.2) u) {j : Nat} (hj : j < 3) : ∃ a vs y, u = .ref a ∧ H a = some (.tup vs) ∧ vs[j]? = some y ∧ Rep H (frD (e.2.getD j (0, 1))) y := by
  obtain ⟨av, vs, rfl, hav, rvs⟩ := shD_at r
  have l3 : e.2.length = 3 := by
    obtain ⟨ns, hn, _, _, e⟩ := (B.each e he).2.2.2.ex
    rw [e, List.length_map, hn]
  have hg : e.2[j]? = some (e.2.getD j (0, 1)) := by rw [List.getD_eq_getElem?_getD, List.getElem?_eq_getElem (by (first | lia | omega))]; rfl
  obtain ⟨y, hy, ry⟩ := RepL.atX rvs hg
  exact ⟨av, vs, y, rfl, hav, hy, ry⟩
def hereL (es : List Ent) (k : Int) : List Ent := es.filter fun e => decide (e.1.sum = k)
def saidL (j : Nat) (es : List Ent) (k : Int) : List Int := ((hereL es k).filter fun e => decide (e.2.getD j (0, 1) = (1, 1))).map c1
theorem saidL_mem {es : List Ent} {j : Nat} {k x : Int} : x ∈ saidL j es k ↔ ∃ e ∈ es, e.1.sum = k ∧ e.2.getD j (0, 1) = (1, 1) ∧ c1 e = x := by
  unfold saidL hereL
  rw [List.mem_map]
  constructor
  · rintro ⟨e, he, rfl⟩
    obtain ⟨h1, h2⟩ := List.mem_filter.mp he
    obtain ⟨h3, h4⟩ := List.mem_filter.mp h1
    exact ⟨e, h3, of_decide_eq_true h4, of_decide_eq_true h2, rfl⟩
  · rintro ⟨e, he, h1, h2, rfl⟩
    exact ⟨e, List.mem_filter.mpr ⟨List.mem_filter.mpr ⟨he, decide_eq_true h1⟩, decide_eq_true h2⟩, rfl⟩
theorem saidL_len {es : List Ent} (B : BuOk es) (j : Nat) (k : Int) : (saidL j es k).length ≤ 320 := by
  unfold saidL hereL
  rw [List.length_map]
  exact Nat.le_trans (List.length_filter_le _ _) (Nat.le_trans (List.length_filter_le _ _) B.len)
theorem max_low {es : List Ent} (B : BuOk es) {k M : Int} (hm : M ∈ -1 :: saidL 1 es k) (hM : ∀ a, a ∈ -1 :: saidL 1 es k → a ≤ M) : M = lowF es k := by
  obtain ⟨a1, a2, a3⟩ := low_fold k es (-1)
  have g1 : M ≤ lowF es k := by
    rcases List.mem_cons.mp hm with rfl | hm
    · exact a1
    · obtain ⟨e, he, h1, h2, rfl⟩ := saidL_mem.mp hm
      exact a2 e he h1 ((sy3 (B.each e he).2.2.2).2.1.mp h2)
  have g2 : lowF es k ≤ M := by
    rcases a3 with a3 | ⟨e, he, q1, q2, q3⟩
    · unfold lowF; rw [a3]; exact hM _ List.mem_cons_self
    · unfold lowF; rw [← q3]; exact hM _ (List.mem_cons_of_mem _ (saidL_mem.mpr ⟨e, he, q1, (sy3 (B.each e he).2.2.2).2.1.mpr q2, rfl⟩))
  (first | lia | omega)
theorem min_high {es : List Ent} (B : BuOk es) {k M : Int} (hm : M ∈ (k + 1) :: saidL 2 es k) (hM : ∀ a, a ∈ (k + 1) :: saidL 2 es k → M ≤ a) : M = highF es k := by
  obtain ⟨a1, a2, a3⟩ := high_fold k es (k + 1)
  have g1 : highF es k ≤ M := by
    rcases List.mem_cons.mp hm with rfl | hm
    · exact a1
    · obtain ⟨e, he, h1, h2, rfl⟩ := saidL_mem.mp hm
      exact a2 e he h1 ((sy3 (B.each e he).2.2.2).2.2.mp h2)
  have g2 : M ≤ highF es k := by
    rcases a3 with a3 | ⟨e, he, q1, q2, q3⟩
    · unfold highF; rw [a3]; exact hM _ List.mem_cons_self
    · unfold highF; rw [← q3]; exact hM _ (List.mem_cons_of_mem _ (saidL_mem.mpr ⟨e, he, q1, (sy3 (B.each e he).2.2.2).2.2.mpr q2, rfl⟩))
  (first | lia | omega)
/-- all fitting pairs whose low bound is one of the first i -/
structure PsOk (es : List Ent) (k : Int) (i : Nat) (ps : List Fr) : Prop where
  fit : ∀ p ∈ ps, -1 ≤ p.1 ∧ p.1 < p.2 ∧ p.2 ≤ k + 1 ∧ prOk es k p.1 p.2 = true
  all : ∀ l h : Int, -1 ≤ l → l < -1 + (i : Int) → l < h → h ≤ k + 1 → prOk es k l h = true → (l, h) ∈ ps
abbrev rowL (k l : Int) : List Fr := (List.range (k + 1 - l).toNat).map fun j : Nat => (l, l + 1 + (j : Int))
theorem PsOk.more {es : List Ent} {k : Int} {i : Nat} {ps : List Fr} (h : PsOk es k i ps) : PsOk es k (i + 1) (ps ++ (rowL k (-1 + (i : Int))).filter fun p => prOk es k p.1 p.2) := by
  refine ⟨fun p hp => ?_, fun l g h1 h2 h3 h4 h5 => ?_⟩
  · rcases List.mem_append.mp hp with hp | hp
    · exact h.fit p hp
    · obtain ⟨m1, m2⟩ := List.mem_filter.mp hp
      obtain ⟨j, hj, rfl⟩ := List.mem_map.mp m1
      have := List.mem_range.mp hj
      exact ⟨by show -1 ≤ -1 + (i : Int); (first | lia | omega), by show -1 + (i : Int) < -1 + (i : Int) + 1 + (j : Int); (first | lia | omega), by show -1 + (i : Int) + 1 + (j : Int) ≤ k + 1; (first | lia | omega), m2⟩
  · by_cases q : l < -1 + (i : Int)
    · exact List.mem_append_left _ (h.all l g h1 q h3 h4 h5)
    · have e : l = -1 + (i : Int) := by (first | lia | omega)
      subst e
      refine List.mem_append_right _ (List.mem_filter.mpr ⟨List.mem_map.mpr ⟨(g - (-1 + (i : Int)) - 1).toNat, List.mem_range.mpr (by (first | lia | omega)), ?_⟩, h5⟩)
      rw [show -1 + (i : Int) + 1 + (((g - (-1 + (i : Int)) - 1).toNat : Nat) : Int) = g by (first | lia | omega)]
theorem due_none {es : List Ent} (B : BuOk es) {k : Nat} {ps : List Fr} (h : PsOk es k (k + 2) ps) (hp : ps = []) : bdOk es = false := by
  cases hb : bdOk es with
  | false => rfl
  | true =>
    obtain ⟨a1, a2, a3, a4, a5⟩ := closest_fit B hb (k := (k : Int)) (by (first | lia | omega))
    have := h.all _ _ a1 (by (first | lia | omega)) a3 a4 a5
    rw [hp] at this
    cases this
theorem due_some {es : List Ent} (B : BuOk es) {k i : Nat} {ps : List Fr} (h : PsOk es k i ps) (hp : ps ≠ []) : ∀ e ∈ es, e.1.sum = (k : Int) → byF (lowF es k) (highF es k) (c1 e) = e.2 := by
  cases ps with
  | nil => exact absurd rfl hp
  | cons p ps =>
    obtain ⟨a1, a2, a3, a4⟩ := h.fit p List.mem_cons_self
    exact fit_closest B a1 a2 a3 a4
theorem by_one (l h s : Int) : ((1, 1) : Fr) ∈ byF l h s := by
  unfold byF
  by_cases h1 : s ≤ l
  · rw [if_pos h1]; decide
  · rw [if_neg h1]
    by_cases h2 : s ≥ h
    · rw [if_pos h2]; decide
    · rw [if_neg h2]; decide
theorem due_all {es : List Ent} (h : ∀ e ∈ es, byF (lowF es e.1.sum) (highF es e.1.sum) (c1 e) = e.2) : bdOk es = true := by
  unfold bdOk
  rw [Bool.and_eq_true, List.all_eq_true, List.all_eq_true]
  exact ⟨fun e he => decide_eq_true (by rw [← h e he]; exact by_one _ _ _), fun e he => decide_eq_true (h e he)⟩
section
variable {P : Program} {w : World} {K : PySem.W.Frag} {mg : Str → Option Value} {base : Heap} {c : Cl}
set_option maxHeartbeats 4000000 in
theorem ok__law_due {f : Addr} {fd : FuncData} (F : Fun K "_law_due" "_law_due" s__law_due f fd) (T : Txt K mg c) (F__law_pair_right : FnC CX0 P w K mg base 2 "_law_pair_right" ["_law_rule_here", "_law_k", "_law_pair"] sp_lpair) : FnOk P w K mg base CX0 3 f fd ["_law_rule_here"] sp_bounds_of := by
  refine F.okw sc__law_due (fun vs H Q E h => ?_) (fun cdv A outer s H vs Q E hr h => ?_)
  · unfold sp_bounds_of at h
    obtain ⟨x, es, e, L, rfl, _⟩ := h
    rfl
  · unfold sp_bounds_of at h
    obtain ⟨x, es, e, L, rfl, rx, BO, he, hL, q⟩ := h
    obtain ⟨a, xs, rfl, ha, rxs⟩ := ruD_at rx
    have lx : xs.length = es.length := by rw [rxs.len, List.length_map]
    have hL8 : L ≤ 8 := by have := (BO.each e (List.mem_of_getLast? he)).2.2.1; (first | lia | omega)
    refine ⟨_, (wss_cons (ws_set (i := 1) sc__law_due.nd rfl (Or.inl rfl) (we_lst wa_nil))
      (wss_cons (ws_for PassesOwn.never rfl (wi_range1 rfl T.b_range (wa_k (we_op op_add (we_cB (cl_maxL K rfl) (by rfl) T.b_max (by decide +kernel) (wa_k (we_compN2 (CScopeN.of (psc := defScope s__law_due) (N := ["_law_rule_here", "_law_found", "_law_k", "_law_pairs", "_law_low", "_law_some", "_law_here", "_law_high"]) (xs := ["_law_counts", "_law_says_here"]) (N' := ["_law_counts", "_law_says_here"]) (js := []) (by decide +kernel) rfl rfl rfl) (wi_tup (we_v 0)) (fun _ _ _ _ => wts_nil) (fun _ _ _ _ => (we_cB (cl_sumT K rfl) (by rfl) T.b_sum (by decide +kernel) (wa_k (we_v 0) wa_nil)))) wa_nil)) we_int) wa_nil)) (wg_name (i := 2) sc__law_due.nd rfl (Or.inr rfl)) (wss_cons (ws_set (i := 3) sc__law_due.nd rfl (Or.inl rfl) (we_lst wa_nil))
      (wss_cons (ws_for PassesOwn.never rfl (wi_range2 rfl T.b_range (wa_k (we_un un_neg we_int) (wa_k (we_op op_add (we_v 2) we_int) wa_nil))) (wg_name (i := 4) sc__law_due.nd rfl (Or.inr rfl)) (wss_cons (ws_setComp (i := 5) (CScope.of (psc := defScope s__law_due) (N := ["_law_rule_here", "_law_found", "_law_k", "_law_pairs", "_law_low", "_law_some", "_law_here", "_law_high"]) (N' := ["_law_high", "_law_low"]) (js := [4]) (by decide +kernel) rfl rfl rfl) sc__law_due.nd rfl rfl (wi_range2 rfl T.b_range (wa_k (we_op op_add (we_v 4) we_int) (wa_k (we_op op_add (we_v 2) we_int) wa_nil))) (fun _ _ _ _ => wts_nil) (fun _ _ _ _ => (we_tup (wa_k (we_v 1) (wa_k (we_v 0) wa_nil)))))
      (wss_one (ws_expr (we_bm PySem.F.plainAttrs_list PySem.F.slot_list_extend PySem.F.type_list_extend mt_ext (we_v 3) (wa_k (we_comp (CScope.of (psc := defScope s__law_due) (N := ["_law_rule_here", "_law_found", "_law_k", "_law_pairs", "_law_low", "_law_some", "_law_here", "_law_high"]) (N' := ["_law_pair", "_law_rule_here", "_law_k"]) (js := [0, 2]) (by decide +kernel) rfl rfl rfl) (wi_list (we_v 5)) (fun _ _ _ _ => wts_one (wt_val (we_fn F__law_pair_right (hr.mono (by decide)) (wa_k (we_v 1) (wa_k (we_v 2) (wa_k (we_v 0) wa_nil)))))) (fun _ _ _ _ => (we_v 0))) wa_nil))))))
      (wss_cons (ws_if (wt_cmp (op_eqD hr.units) (we_v 3) (we_lst wa_nil) (nomark _)) (wss_one (ws_ret we_non)) wss_nil)
      (wss_cons (ws_setCompN2 (i := 6) (CScopeN.of (psc := defScope s__law_due) (N := ["_law_rule_here", "_law_found", "_law_k", "_law_pairs", "_law_low", "_law_some", "_law_here", "_law_high"]) (xs := ["_law_counts", "_law_says_here"]) (N' := ["_law_counts", "_law_says_here", "_law_k"]) (js := [2]) (by decide +kernel) rfl rfl rfl) sc__law_due.nd rfl rfl (wi_tup (we_v 0)) (fun _ _ _ _ => wts_one (wt_cmp op_eq (we_cB (cl_sumT K rfl) (by rfl) T.b_sum (by decide +kernel) (wa_k (we_v 0) wa_nil)) (we_v 2) (nomark _))) (fun _ _ _ _ => (we_tup (wa_k (we_ix (ix_seqK K) (we_v 0) we_int (fun _ _ => rfl)) (wa_k (we_v 1) wa_nil)))))
      (wss_cons (ws_set (i := 4) sc__law_due.nd rfl (Or.inr rfl) (we_cB (cl_maxL K rfl) (by rfl) T.b_max (by decide +kernel) (wa_k (we_op op_cat (we_lst (wa_k (we_un un_neg we_int) wa_nil)) (we_compN2 (CScopeN.of (psc := defScope s__law_due) (N := ["_law_rule_here", "_law_found", "_law_k", "_law_pairs", "_law_low", "_law_some", "_law_here", "_law_high"]) (xs := ["_law_seen", "_law_says_here"]) (N' := ["_law_seen", "_law_says_here"]) (js := []) (by decide +kernel) rfl rfl rfl) (wi_list (we_v 6)) (fun _ _ _ _ => wts_one (wt_cmp (op_eqD hr.units) (we_ix (ix_seqK K) (we_v 1) we_int (fun _ _ => rfl)) (we_tup (wa_k we_int (wa_k we_int wa_nil))) (nomark _))) (fun _ _ _ _ => (we_v 0)))) wa_nil)))
      (wss_cons (ws_set (i := 7) sc__law_due.nd rfl (Or.inl rfl) (we_cB (cl_minL K rfl) (by rfl) T.b_min (by decide +kernel) (wa_k (we_op op_cat (we_lst (wa_k (we_op op_add (we_v 2) we_int) wa_nil)) (we_compN2 (CScopeN.of (psc := defScope s__law_due) (N := ["_law_rule_here", "_law_found", "_law_k", "_law_pairs", "_law_low", "_law_some", "_law_here", "_law_high"]) (xs := ["_law_seen", "_law_says_here"]) (N' := ["_law_seen", "_law_says_here"]) (js := []) (by decide +kernel) rfl rfl rfl) (wi_list (we_v 6)) (fun _ _ _ _ => wts_one (wt_cmp (op_eqD hr.units) (we_ix (ix_seqK K) (we_v 1) we_int (fun _ _ => rfl)) (we_tup (wa_k we_int (wa_k we_int wa_nil))) (nomark _))) (fun _ _ _ _ => (we_v 0)))) wa_nil)))
      (wss_one (ws_expr (we_bm PySem.F.plainAttrs_list PySem.F.slot_list_append PySem.F.type_list_append mt_app (we_v 1) (wa_k (we_tup (wa_k (we_v 4) (wa_k (we_v 7) wa_nil))) wa_nil)))))))))))
      (wss_one (ws_ret (we_cT call_tuple_of (by rfl) T.b_tuple (by decide +kernel) (wa_k (we_v 1) wa_nil)))))), ?_⟩
    refine nwL (by show 0 ≤ 64; decide) fun fo H1 hfo e1 s1 => ?_
    refine ⟨_, rfl, a, rfl, ⟨_, SqT.of (s1 _ _ ha)⟩, ?_⟩
    refine compN_tup (fun _ => true) (fun e x => Rep H (enD e) x) (fun e y H' => y = .int e.1.sum) (fun e y H1 H2 s r => r) (by have := BO.len; (first | lia | omega)) (s1 _ _ ha) (Paired.ofRepL rxs) (fun x d H' hd rd s' => ?_) (fun D ys H2 hD e2 s2 pr => ?_)
    · obtain ⟨b, u, v, rfl, hb, ru, rv⟩ := enD_at (rd.same (s1.trans s'))
      refine ⟨b, [u, v], rfl, SqT.of hb, rfl, fun Q' h => h H' (Same.refl _), fun H5 Q' s5 _ k' => ?_⟩
      obtain ⟨cu, rfl, hcu⟩ := ctD_at (ru.same s5)
      refine ⟨_, rfl, ?_⟩
      refine rsT (SqT.of hcu) ?_
      exact k' _ H5 (Same.refl _) rfl
    · rw [filter_yes] at pr
      cases paired_ints (g := fun e : Ent => e.1.sum) pr
      refine rmxl (SqL.of e2) (by rw [List.length_map]; exact List.length_pos_iff.mpr BO.ne) fun M hM1 hM2 => ?_
      have eM : M = (L : Int) := by
        obtain ⟨d, hd, rfl⟩ := List.mem_map.mp hM1
        have h1 := BO.last he d hd
        have h2 := hM2 _ (List.mem_map.mpr ⟨e, List.mem_of_getLast? he, rfl⟩)
        have h2' : e.1.sum ≤ d.1.sum := h2
        show d.1.sum = (L : Int)
        (first | lia | omega)
      subst eM
      clear hM1 hM2 pr e2 hD
      refine ⟨_, _, rfl, rfl, ?_⟩
      refine ⟨_, rfl, by (first | lia | omega), by (first | lia | omega), ?_⟩
      rw [show ((L : Int) + 1).toNat = L + 1 by (first | lia | omega)]
      have s12 := s1.trans s2
      refine for_range (fun i σ H' => ∃ (o2 o3 o4 o5 o6 o7 : Option V) (vs : List V), σ = [some (.ref a), some (.ref fo), o2, o3, o4, o5, o6, o7] ∧ Same H H' ∧ H' fo = some (.lst vs) ∧ RepL H' ((List.range i).map fun k : Nat => prD (lowF es k) (highF es k)) vs ∧ (∀ d ∈ es, d.1.sum < (i : Int) → byF (lowF es d.1.sum) (highF es d.1.sum) (c1 d) = d.2)) ⟨_, _, _, _, _, _, [], rfl, s12, s2 _ _ e1, RepL.nil, fun d hd h => by (have := sum_nn (BO.each d hd).2.1; (first | lia | omega))⟩ ?_ ?_
      · clear e1 s1 s2 s12
        rintro i σ H3 hi ⟨o2, o3, o4, o5, o6, o7, vs, rfl, s3, e3, r3, al⟩
        rw [show (0 : Int) + ((i : Nat) : Int) = (i : Int) by (first | lia | omega)]
        refine nwL (by show 0 ≤ 64; decide) fun pa H4 hpa e4 s4 => ?_
        refine ⟨_, rfl, _, rfl, _, _, rfl, rfl, _, _, rfl, ⟨by (first | lia | omega), by (first | lia | omega), by (first | lia | omega), by (first | lia | omega)⟩, ?_⟩
        rw [show ((i : Int) + 1 - -1).toNat = i + 2 by (first | lia | omega)]
        refine for_range (fun j σ H' => ∃ (o4 o5 : Option V) (zs : List V) (ps : List Fr), σ = [some (.ref a), some (.ref fo), some (.int (i : Int)), some (.ref pa), o4, o5, o6, o7] ∧ Same H3 H' ∧ H' pa = some (.lst zs) ∧ RepL H' (ps.map frD) zs ∧ PsOk es i j ps ∧ ps.length ≤ 12 * j) ⟨_, _, [], [], rfl, s4, e4, RepL.nil, ⟨fun p h => by (cases h), fun l h h1 h2 => by (first | lia | omega)⟩, Nat.zero_le _⟩ ?_ ?_
        · clear e4 s4
          rintro j σ H5 hj ⟨o4, o5, zs, ps, rfl, s5, e5, r5, PS, lp⟩
          refine ⟨_, rfl, _, _, rfl, rfl, _, rfl, _, _, rfl, rfl, _, _, rfl, ⟨by (first | lia | omega), by (first | lia | omega), by (first | lia | omega), by (first | lia | omega)⟩, ?_⟩
          have ht : ((i : Int) + 2 - (-1 + (j : Int) + 1)).toNat = ((i : Int) + 1 - (-1 + (j : Int))).toNat := by (first | lia | omega)
          rw [ht]
          refine comp_mapR (fun t y H' => Rep H' (frD (-1 + (j : Int), -1 + (j : Int) + 1 + (t : Int))) y) (fun t y H1 H2 s r => r.flat s (frD_flat _)) (by (first | lia | omega)) (fun t H' Q' ht s' k' => ?_) (fun D ys H6 hD6 e6 s6 hy6 hr6 => ?_)
          · refine ⟨_, rfl, _, rfl, ?_⟩
            refine nwT (by show 2 ≤ 64; decide) fun q7 H7 hq7 e7 s7 => ?_
            exact k' _ H7 s7 (frD_of (f := (-1 + (j : Int), -1 + (j : Int) + 1 + (t : Int))) e7)
          · have r6 : RepL H6 ((rowL i (-1 + (j : Int))).map frD) ys := RepL.ofIdx (by rw [hy6, List.length_map, List.length_map, List.length_range]) fun t y hy => by
              have := (List.getElem?_eq_some_iff.mp hy).1
              exact ⟨_, by rw [List.getElem?_map, List.getElem?_map, List.getElem?_range (by (first | lia | omega))]; rfl, hr6 t y hy⟩
            refine ⟨_, rfl, tyL (s6 _ _ e5), _, rfl, D, rfl, ⟨_, SqL.of e6⟩, ?_⟩
            have s36 := (s3.trans s5).trans s6
            refine comp_fltD r6 (fun p => prOk es i p.1 p.2) (by (first | lia | omega)) e6 (fun x' d H' Q' hd rx' s' k' => ?_) (fun x' H' Q' q => ⟨_, rfl, q⟩) (fun D2 ys2 H7 hD2 e7 s7 r7 => ?_)
            · obtain ⟨pa', rfl, hp'⟩ := frD_at rx'
              refine ⟨_, rfl, _, rfl, _, rfl, ?_⟩
              refine sp_lpair_i (l := d.1) (h := d.2) ((rx.same s36).same s') BO hp' fun H8 s8 => ?_
              exact ⟨_, rfl, k' H8 s8⟩
            · have s67 := s6.trans s7
              have lz : zs.length = ps.length := by rw [r5.len, List.length_map]
              have lf := List.length_filter_le (fun p : Fr => prOk es i p.1 p.2) (rowL i (-1 + (j : Int)))
              have lrow : (rowL i (-1 + (j : Int))).length ≤ 12 := by rw [List.length_map, List.length_range]; (first | lia | omega)
              have ly2 : ys2.length ≤ 12 := by rw [r7.len, List.length_map]; (first | lia | omega)
              refine extL (s67 _ _ e5) e7 (by (first | lia | omega)) fun H8 e8 b8 => ?_
              have t8 := b8.t (s67 _ _ e5)
              refine ⟨_, _, zs ++ ys2, ps ++ (rowL i (-1 + (j : Int))).filter fun p => prOk es i p.1 p.2, rfl, Same.thru hpa (s5.trans s67) b8, e8, ?_, PS.more, ?_⟩
              · rw [List.map_append]
                exact RepL.append (r7.flat t8 (frs_flat _)) (r5.flat (s67.t.trans t8) (frs_flat _))
              · rw [List.length_append]; (first | lia | omega)
        · clear e4 s4
          rintro σ H5 ⟨o4, o5, zs, ps, rfl, s5, e5, r5, PS, lp⟩
          refine ⟨_, rfl, ?_⟩
          refine nwL (by show 0 ≤ 64; decide) fun q6 H6 hq6 e6 s6 => ?_
          refine reD (d := .list (ps.map frD)) (d' := .list []) (Rep.lst (s6 _ _ e5) (r5.same s6)) (Rep.lst e6 RepL.nil) (ps_shaped ps) rfl ?_
          rw [Bool.true_beq, eqv_nilF]
          refine ⟨_, rfl, ?_⟩
          have s56 := s5.trans s6
          have S6 := s3.trans s56
          refine iteD (fun hp => ?_) (fun hp => ?_)
          · exact (q _ S6).1 (due_none BO PS hp)
          · have DS := due_some BO PS hp
            clear PS lp hp e6 hq6 r5 e5 s5 s6 hpa
            refine ⟨_, rfl, a, rfl, ⟨_, SqT.of (S6 _ _ ha)⟩, ?_⟩
            refine compN_tup (fun e : Ent => decide (e.1.sum = (i : Int))) (fun e x => Rep H (enD e) x) (fun e y H' => Rep H' (heD e) y) (fun e y H1 H2 s r => r.flat s (heD_flat _)) (by have := BO.len; (first | lia | omega)) (S6 _ _ ha) (Paired.ofRepL rxs) (fun x d H' hd rd s' => ?_) (fun D ys H7 hD7 e7 s7 pr => ?_)
            · obtain ⟨b, u, v, rfl, hb, ru, rv⟩ := enD_at (rd.same (S6.trans s'))
              obtain ⟨cu, rfl, hcu⟩ := ctD_at ru
              have hl := (BO.each d hd).1
              refine ⟨b, [.ref cu, v], rfl, SqT.of hb, rfl, fun Q' h => ?_, fun H5 Q' s5 _ k' => ?_⟩
              · refine ⟨_, rfl, ?_⟩
                refine rsT (SqT.of hcu) ?_
                refine ⟨_, rfl, rfl, _, rfl, ?_⟩
                have := h H' (Same.refl _)
                rw [show decide (V.int d.1.sum = V.int (i : Int)) = decide (d.1.sum = (i : Int)) by simp]
                exact this
              · refine ⟨_, rfl, ?_⟩
                refine ixT (s5 _ _ hcu) (at_one hl) ?_
                refine ⟨_, rfl, ?_⟩
                refine nwT (by show 2 ≤ 64; decide) fun q8 H8 hq8 e8 s8 => ?_
                exact k' _ H8 s8 (Rep.tup e8 (RepL.cons (Rep.int _) (RepL.cons ((rv.same s5).same s8) RepL.nil)))
            · have hmem : ∀ d ∈ hereL es (i : Int), d ∈ es := fun d h => (List.mem_filter.mp h).1
              have lhe : (hereL es (i : Int)).length ≤ 320 := Nat.le_trans (List.length_filter_le _ _) BO.len
              change Paired (fun d y => Rep H7 (heD d) y) (hereL es (i : Int)) ys at pr
              refine ⟨_, rfl, ?_⟩
              refine nwL (by show 1 ≤ 64; decide) fun q8 H8 hq8 e8 s8 => ?_
              refine ⟨_, rfl, D, rfl, ⟨_, SqL.of (s8 _ _ e7)⟩, ?_⟩
              refine compN_lst (fun e : Ent => decide (e.2.getD 1 (0, 1) = (1, 1))) (fun e x => Rep H7 (heD e) x) (fun e y H' => y = .int (c1 e)) (fun e y H1 H2 s r => r) (by (first | lia | omega)) (s8 _ _ e7) pr (fun x d H' hd rd s' => ?_) (fun D9 ys9 H9 hD9 e9 s9 pr9 => ?_)
              · obtain ⟨b, u, rfl, hb, ru⟩ := heD_at (rd.same (s8.trans s'))
                obtain ⟨av, vv, y, rfl, hav, hy, ry⟩ := said_at BO (hmem d hd) ru (j := 1) (by decide)
                refine ⟨b, _, rfl, SqT.of hb, rfl, fun Q' h => ?_, fun H5 Q' s5 _ k' => ?_⟩
                · refine ⟨_, rfl, ?_⟩
                  refine ixT hav (atI_nat (j := 1) hy) ?_
                  refine nwT (by show 2 ≤ 64; decide) fun q10 H10 hq10 e10 s10 => ?_
                  refine reD (ry.same s10) (frD_of (f := (1, 1)) e10) rfl rfl ?_
                  rw [Bool.true_beq, eqv_fr]
                  exact ⟨_, rfl, h H10 s10⟩
                · exact ⟨_, rfl, k' _ H5 (Same.refl _) rfl⟩
              · have hy9 : ys9 = (saidL 1 es (i : Int)).map V.int := paired_ints pr9
                subst hy9
                refine catL (s9 _ _ e8) e9 (by rw [List.length_map]; have := saidL_len BO 1 (i : Int); show 1 + (saidL 1 es (i : Int)).length ≤ 1000; (first | lia | omega)) fun q10 H10 hq10 e10 s10 => ?_
                refine rmxl (ns := -1 :: saidL 1 es (i : Int)) (SqL.of e10) (Nat.succ_pos _) fun M hM1 hM2 => ?_
                cases max_low BO hM1 hM2
                clear hM1 hM2 pr9 e9 hD9
                have s710 := (s8.trans s9).trans s10
                refine ⟨_, rfl, _, _, rfl, rfl, ?_⟩
                refine nwL (by show 1 ≤ 64; decide) fun q11 H11 hq11 e11 s11 => ?_
                refine ⟨_, rfl, D, rfl, ⟨_, SqL.of (s11 _ _ (s710 _ _ e7))⟩, ?_⟩
                refine compN_lst (fun e : Ent => decide (e.2.getD 2 (0, 1) = (1, 1))) (fun e x => Rep H7 (heD e) x) (fun e y H' => y = .int (c1 e)) (fun e y H1 H2 s r => r) (by (first | lia | omega)) (s11 _ _ (s710 _ _ e7)) pr (fun x d H' hd rd s' => ?_) (fun D12 ys12 H12 hD12 e12 s12 pr12 => ?_)
                · obtain ⟨b, u, rfl, hb, ru⟩ := heD_at (rd.same ((s710.trans s11).trans s'))
                  obtain ⟨av, vv, y, rfl, hav, hy, ry⟩ := said_at BO (hmem d hd) ru (j := 2) (by decide)
                  refine ⟨b, _, rfl, SqT.of hb, rfl, fun Q' h => ?_, fun H5 Q' s5 _ k' => ?_⟩
                  · refine ⟨_, rfl, ?_⟩
                    refine ixT hav (atI_nat (j := 2) hy) ?_
                    refine nwT (by show 2 ≤ 64; decide) fun q13 H13 hq13 e13 s13 => ?_
                    refine reD (ry.same s13) (frD_of (f := (1, 1)) e13) rfl rfl ?_
                    rw [Bool.true_beq, eqv_fr]
                    exact ⟨_, rfl, h H13 s13⟩
                  · exact ⟨_, rfl, k' _ H5 (Same.refl _) rfl⟩
                · have hy12 : ys12 = (saidL 2 es (i : Int)).map V.int := paired_ints pr12
                  subst hy12
                  refine catL (s12 _ _ e11) e12 (by rw [List.length_map]; have := saidL_len BO 2 (i : Int); show 1 + (saidL 2 es (i : Int)).length ≤ 1000; (first | lia | omega)) fun q13 H13 hq13 e13 s13 => ?_
                  refine rmnl (ns := ((i : Int) + 1) :: saidL 2 es (i : Int)) (SqL.of e13) (Nat.succ_pos _) fun M hM1 hM2 => ?_
                  cases min_high BO hM1 hM2
                  have s713 := ((s710.trans s11).trans s12).trans s13
                  have s613 := (s56.trans s7).trans s713
                  have e3' := s613 _ _ e3
                  refine ⟨_, rfl, tyL e3', _, rfl, _, rfl, ?_⟩
                  refine nwT (by show 2 ≤ 64; decide) fun q14 H14 hq14 e14 s14 => ?_
                  have lv : vs.length = i := by rw [r3.len, List.length_map, List.length_range]
                  refine appL (s14 _ _ e3') (by (first | lia | omega)) fun H15 e15 b15 => ?_
                  have t15 := b15.t (s14 _ _ e3')
                  refine ⟨_, _, _, _, _, _, _, rfl, Same.thru hfo ((s3.trans s613).trans s14) b15, e15, ?_, fun d hd hlt => ?_⟩
                  · rw [List.range_succ, List.map_append]
                    exact RepL.snoc (r3.flat ((s613.trans s14).t.trans t15) (prs_flat _ _)) (Rep.flat t15 rfl (frD_of (f := (lowF es i, highF es i)) e14))
                  · by_cases hk : d.1.sum = (i : Int)
                    · have := DS d hd hk
                      rw [hk]; exact this
                    · exact al d hd (by (first | lia | omega))
      · rintro σ H3 ⟨o2, o3, o4, o5, o6, o7, vs, rfl, s3, e3, r3, al⟩
        refine ⟨_, rfl, ?_⟩
        refine ⟨fo, vs, rfl, .inl ⟨SqL.of e3, fun l hl => ?_⟩⟩
        refine (q _ (s3.trans (Same.upd hl))).2 (due_all fun d hd => al d hd ?_) _ (Rep.tup upd_same (r3.same (Same.upd hl)))
        have := BO.last he d hd
        (first | lia | omega)
end
end Kw
set_option Elab.async false
set_option linter.all false
set_option maxRecDepth 100000
namespace Kw
open PySem L2 Mf
structure ShowOk (d : PyData) : Prop where
  sh : d.showable = true
  nd : d.hasDict = false
  dp : d.depth ≤ 60
  ln : d.shown.length ≤ sizeLine
theorem fr_show {f : Fr} (h : Szf 1062 f) : PyData.showable (frD f) = true := by
  show (PyData.showable (.int f.1) && (PyData.showable (.int f.2) && true)) = true
  rw [showInt h.1, showInt h.2]; rfl
theorem frs_show : ∀ {fs : List Fr}, (∀ f ∈ fs, Szf 1062 f) → PyData.showableAll (fs.map frD) = true
  | [], _ => rfl
  | f :: fs, h => by show (PyData.showable (frD f) && PyData.showableAll (fs.map frD)) = true; rw [fr_show (h f (by simp)), frs_show fun g hg => h g (List.mem_cons_of_mem _ hg)]; rfl
theorem frs_dict : ∀ fs : List Fr, PyData.hasDictAll (fs.map frD) = false
  | [] => rfl
  | f :: fs => by show (PyData.hasDict (frD f) || PyData.hasDictAll (fs.map frD)) = false; rw [frs_dict fs]; rfl
theorem frs_depth : ∀ fs : List Fr, PyData.depthAll (fs.map frD) ≤ 3
  | [] => by decide
  | f :: fs => by
    have := frs_depth fs
    have e : PyData.depth (frD f) ≤ 3 := by simp [PyData.depth, PyData.depthAll]
    show max (PyData.depth (frD f)) (PyData.depthAll (fs.map frD)) ≤ 3
    (first | lia | omega)
theorem frs_shW : ∀ fs : List Fr, shWs (fs.map frD) = fs.length * 3852
  | [] => rfl
  | f :: fs => by
    show shW (frD f) + 2 + shWs (fs.map frD) = (fs.length + 1) * 3852
    rw [frs_shW fs, show shW (frD f) = 3850 from rfl]
    (first | lia | omega)
theorem sh_show {fs : List Fr} (h : ∀ f ∈ fs, Szf 1062 f) (hl : fs.length ≤ 64) : ShowOk (shD fs) := by
  have h1 : PyData.showable (shD fs) = true := frs_show h
  have h2 : PyData.hasDict (shD fs) = false := frs_dict fs
  refine ⟨h1, h2, ?_, Nat.le_trans (shown_le _ h1 h2) ?_⟩
  · have := frs_depth fs
    show PyData.depthAll (fs.map frD) + 1 ≤ 60
    (first | lia | omega)
  · show shWs (fs.map frD) + 4 ≤ sizeLine
    rw [frs_shW]
    exact Nat.le_trans (show fs.length * 3852 + 4 ≤ 64 * 3852 + 4 by (first | lia | omega)) (by decide)
theorem non_show : ShowOk .none := ⟨rfl, rfl, by decide, by decide +kernel⟩
theorem rrS {H : Hp} {Q : VK} {x : V} {d : PyData} (r : Rep H d x) (h : ShowOk d) (q : Q (.str d.shown) H) : rRepr [x] H Q := rrI r h.sh h.nd h.dp h.ln q
theorem iteFe {b : Bool} {A B : Prop} (h : b = false) (k : B) : if b = true then A else B := by rw [h, if_neg (by decide)]; exact k
/-! ### rules as the law bends them -/
theorem sqL_keep {K : PySem.W.Frag} {H H' : Hp} {a : Addr} {xs : List V} (s : Same H H') (h : SqL K H a xs) : SqL K H' a xs := by
  rcases h with (h | ⟨o, h⟩) | h
  · exact .inl (.inl (s _ _ h))
  · exact .inl (.inr ⟨o, s _ _ h⟩)
  · exact .inr h
theorem RepL.take {H : Hp} : ∀ {ds : List PyData} {vs : List V} (n : Nat), RepL H ds vs → RepL H (ds.take n) (vs.take n)
  | [], _, n, h => by cases (show _ = [] from h); rw [List.take_nil, List.take_nil]; exact RepL.nil
  | d :: ds, _, 0, h => RepL.nil
  | d :: ds, _, n + 1, h => by
    unfold RepL at h
    obtain ⟨x, xs, rfl, h1, h2⟩ := h
    exact RepL.cons h1 (RepL.take n h2)
theorem RepL.drop {H : Hp} : ∀ {ds : List PyData} {vs : List V} (n : Nat), RepL H ds vs → RepL H (ds.drop n) (vs.drop n)
  | [], _, n, h => by cases (show _ = [] from h); rw [List.drop_nil, List.drop_nil]; exact RepL.nil
  | d :: ds, _, 0, h => h
  | d :: ds, _, n + 1, h => by
    unfold RepL at h
    obtain ⟨x, xs, rfl, h1, h2⟩ := h
    exact RepL.drop n h2
theorem RuOk.bu {M : Nat} {es : List Ent} (h : RuOk 2 2 M es) (hM : M ≤ 8) : BuOk es :=
  ⟨h.ne, fun e he => ⟨(h.each e he).1, (h.each e he).2.1, by have := (h.each e he).2.2.1; (first | lia | omega), (h.each e he).2.2.2⟩, h.asc, h.len⟩
theorem BuOk.bent {es : List Ent} (h : BuOk es) {i : Nat} {e : Ent} (hi : es[i]? = some e) {fs : List Fr} (hs : SyOk 3 fs) : BuOk (es.take i ++ [(e.1, fs)] ++ es.drop (i + 1)) := by
  have hl := (List.getElem?_eq_some_iff.mp hi).1
  have e1 : es.take i ++ [(e.1, fs)] ++ es.drop (i + 1) = es.set i (e.1, fs) := by
    rw [List.set_eq_take_append_cons_drop, if_pos hl, List.append_assoc]; rfl
  rw [e1]
  refine ⟨fun q => ?_, fun d hd => ?_, ?_, by rw [List.length_set]; exact h.len⟩
  · have := congrArg List.length q
    rw [List.length_set, List.length_nil] at this
    (first | lia | omega)
  · rcases List.mem_or_eq_of_mem_set hd with hd | rfl
    · exact h.each d hd
    · obtain ⟨a1, a2, a3, a4⟩ := h.each e (List.mem_of_getElem? hi)
      exact ⟨a1, a2, a3, hs⟩
  · have e2 : (es.set i (e.1, fs)).map (fun e => e.1.sum) = es.map fun e => e.1.sum := by
      rw [List.map_set]
      refine List.ext_getElem? fun j => ?_
      by_cases q : i = j
      · subst q
        rw [List.getElem?_set_self (by rw [List.length_map]; exact hl), List.getElem?_map, hi]; rfl
      · rw [List.getElem?_set_ne q]
    rw [e2]; exact h.asc
theorem SyOk.swap {f g h : Fr} (s : SyOk 3 [f, g, h]) : SyOk 3 [f, h, g] := by
  obtain ⟨ns, hl, h7, h0, e⟩ := s.ex
  match ns, hl with
  | [a, b, c], _ =>
    have ha := h7 a (by simp)
    have hb := h7 b (by simp)
    have hc := h7 c (by simp)
    have es : ([a, c, b] : List Int).sum = [a, b, c].sum := by show a + (c + (b + 0)) = a + (b + (c + 0)); (first | lia | omega)
    injection e with e1 e2
    injection e2 with e2 e3
    injection e3 with e3 _
    refine ⟨[a, c, b], rfl, fun x hx => ?_, by rw [es]; exact h0, ?_⟩
    · rcases List.mem_cons.mp hx with rfl | hx
      · exact ha
      · rcases List.mem_cons.mp hx with rfl | hx
        · exact hc
        · cases List.mem_singleton.mp hx; exact hb
    · rw [es]
      show [f, h, g] = [lw a _, lw c _, lw b _]
      rw [e1, e2, e3]
theorem sp_rule_e {H : Hp} {Q : VK} {E : XK} {p : Addr} {n M : Nat} {z : Int} {pl : Bool} (hz : z = (M : Int)) (T : TapeAt H p (n + 8192)) (hM : M ≤ 4) (k : ∀ v es H', TapeAt H' p n → SameBut p H H' → Rep H' (ruD es) v → RuOk 2 2 M es → Q v H') : sp_rule [.ref p, .int 2, .int 2, .int z, .bl pl] H Q E := by
  subst hz; exact sp_rule_i (F := 2) (W := 2) T ⟨by decide, .inl ⟨rfl, hM⟩⟩ k
def dueD (es : List Ent) (L : Nat) : PyData := if bdOk es = true then .tuple (bdDs es L) else .none
theorem sp_bounds_of_d {H : Hp} {Q : VK} {E : XK} {x : V} {es : List Ent} {e : Ent} {L : Nat} (h1 : Rep H (ruD es) x) (h2 : BuOk es) (h3 : es.getLast? = some e) (h4 : e.1.sum = (L : Int)) (q : ∀ v H', Same H H' → Rep H' (dueD es L) v → Q v H') : sp_bounds_of [x] H Q E := by
  refine sp_bounds_of_i h1 h2 h3 h4 fun H' s => ⟨fun hb => q _ H' s ?_, fun hb v r => q v H' s ?_⟩
  · unfold dueD; rw [if_neg (by rw [hb]; decide)]; exact Rep.non
  · unfold dueD; rw [if_pos hb]; exact r
theorem due_show {es : List Ent} (B : BuOk es) {L : Nat} (hL : L ≤ 8) : ShowOk (dueD es L) := by
  unfold dueD
  by_cases hb : bdOk es = true
  · rw [if_pos hb]
    have e : PyData.tuple (bdDs es L) = shD ((List.range (L + 1)).map fun k : Nat => (lowF es k, highF es k)) := by
      show _ = PyData.tuple _
      rw [List.map_map]; rfl
    rw [e]
    refine sh_show (fun f hf => ?_) (by rw [List.length_map, List.length_range]; (first | lia | omega))
    obtain ⟨k, hk, rfl⟩ := List.mem_map.mp hf
    have := List.mem_range.mp hk
    obtain ⟨a1, a2, a3, a4, _⟩ := closest_fit B hb (k := (k : Int)) (by (first | lia | omega))
    exact ⟨Nat.lt_of_le_of_lt (show (lowF es (k : Int)).natAbs ≤ 12 by (first | lia | omega)) (by decide +kernel), Nat.lt_of_le_of_lt (show (highF es (k : Int)).natAbs ≤ 12 by (first | lia | omega)) (by decide +kernel)⟩
  · rw [if_neg hb]; exact non_show
theorem BuOk.end {es : List Ent} (h : BuOk es) : ∃ (e : Ent) (L : Nat), es.getLast? = some e ∧ e.1.sum = (L : Int) ∧ L ≤ 8 := by
  obtain ⟨e, he⟩ : ∃ e, es.getLast? = some e := ⟨_, List.getLast?_eq_some_getLast h.ne⟩
  have h1 := h.each e (List.mem_of_getLast? he)
  have := sum_nn h1.2.1
  exact ⟨e, e.1.sum.toNat, he, by (first | lia | omega), by (first | lia | omega)⟩
section
variable {P : Program} {w : World} {K : PySem.W.Frag} {mg : Str → Option Value} {base : Heap} {c : Cl}
set_option maxHeartbeats 4000000 in
theorem ok_law {f : Addr} {fd : FuncData} (F : Fun K "law" "law" s_law f fd) (T : Txt K mg c)
    (F__law_tape : FnC CX0 P w K mg base 1 "_law_tape" ["_law_script", "_law_at"] (sp_tape K)) (F__law_pick : FnC CX0 P w K mg base 1 "_law_pick" ["_law_tape_here", "_law_many"] sp_pick)
    (F__law_by : FnC CX0 P w K mg base 2 "_law_by" ["_law_bounds_here"] sp_by) (F__law_bounds : FnC CX0 P w K mg base 2 "_law_bounds" ["_law_tape_here", "_law_most"] sp_bnds)
    (F__law_rule : FnC CX0 P w K mg base 4 "_law_rule" ["_law_tape_here", "_law_faces", "_law_ways", "_law_most", "_law_plain"] sp_rule) (F_bounds_of : FnC CX0 P w K mg base 2 "bounds_of" ["rule"] sp_bounds_of) (F__law_due : FnC CX0 P w K mg base 3 "_law_due" ["_law_rule_here"] sp_bounds_of) : FnOk P w K mg base CX0 5 f fd ["_law_script"] (sp_law K) := by
  refine F.okw sc_law (fun vs H Q E h => ?_) (fun cdv A outer s H vs Q E hr h => ?_)
  · unfold sp_law at h
    obtain ⟨a, ns, rfl, _⟩ := h
    rfl
  · unfold sp_law at h
    obtain ⟨a, ns, rfl, hS, hl, k⟩ := h
    refine ⟨_, (wss_cons (ws_for PassesOwn.never rfl (wi_range1 rfl T.b_range (wa_k (we_op op_add we_int (we_cB cl_len (by rfl) T.b_len (by decide +kernel) (wa_k (we_slice sl_list (we_v 0) wo_none (wo_some we_int)) wa_nil))) wa_nil)) (wg_name (i := 1) sc_law.nd rfl (Or.inl rfl)) (wss_cons (ws_set (i := 2) sc_law.nd rfl (Or.inl rfl) (we_fn F__law_tape (hr.mono (by decide)) (wa_k (we_v 0) (wa_k (we_v 1) wa_nil))))
      (wss_cons (ws_set (i := 3) sc_law.nd rfl (Or.inl rfl) (we_ix ix_seq (we_lst (wa_k we_int (wa_k we_int (wa_k we_int (wa_k we_int (wa_k we_int (wa_k we_int wa_nil))))))) (we_fn F__law_pick (hr.mono (by decide)) (wa_k (we_v 2) (wa_k we_int wa_nil))) (fun _ _ => rfl)))
      (wss_cons (ws_set (i := 4) sc_law.nd rfl (Or.inl rfl) (we_ix ix_seq (we_fn F__law_by (hr.mono (by decide)) (wa_k (we_fn F__law_bounds (hr.mono (by decide)) (wa_k (we_v 2) (wa_k (we_v 3) wa_nil))) wa_nil)) we_int (fun _ _ => rfl)))
      (wss_cons (ws_set (i := 5) sc_law.nd rfl (Or.inl rfl) (we_fn F__law_pick (hr.mono (by decide)) (wa_k (we_v 2) (wa_k (we_cB cl_len (by rfl) T.b_len (by decide +kernel) (wa_k (we_v 4) wa_nil)) wa_nil))))
      (wss_cons (ws_asg (we_ix ix_seq (we_v 4) (we_v 5) (fun _ _ => rfl)) (wg_tup rfl (wgs_cons (wg_name (i := 6) sc_law.nd rfl (Or.inl rfl)) (wgs_cons (wg_name (i := 7) sc_law.nd rfl (Or.inl rfl)) wgs_nil))))
      (wss_cons (ws_cut (ws_if (wt_cmp (op_eqD hr.units) (we_ix ix_seq (we_v 7) we_int (fun _ _ => rfl)) (we_tup (wa_k we_int (wa_k we_int wa_nil))) (nomark _)) (wss_cons (ws_set (i := 8) sc_law.nd rfl (Or.inl rfl) (we_tup (wa_k (we_ix ix_seq (we_v 7) we_int (fun _ _ => rfl)) (wa_k (we_ix ix_seq (we_v 7) we_int (fun _ _ => rfl)) (wa_k (we_ix ix_seq (we_v 7) we_int (fun _ _ => rfl)) wa_nil)))))
      (wss_one (ws_set (i := 9) sc_law.nd rfl (Or.inl rfl) (we_op (op_catU K) (we_op (op_catU K) (we_slice (sl_tupA K) (we_v 4) wo_none (wo_some (we_v 5))) (we_tup (wa_k (we_tup (wa_k (we_v 6) (wa_k (we_v 8) wa_nil))) wa_nil))) (we_slice (sl_tupA K) (we_v 4) (wo_some (we_op op_add (we_v 5) we_int)) wo_none))))) (wss_one (ws_set (i := 9) sc_law.nd rfl (Or.inl rfl) (we_fn F__law_rule (hr.mono (by decide)) (wa_k (we_v 2) (wa_k we_int (wa_k we_int (wa_k (we_op op_mod (we_v 3) we_int) (wa_k we_bl wa_nil))))))))))
      (wss_one (ws_for PassesOwn.never rfl (wi_list (we_lst (wa_k (we_v 4) (wa_k (we_v 9) (wa_k (we_fn F__law_rule (hr.mono (by decide)) (wa_k (we_v 2) (wa_k we_int (wa_k we_int (wa_k (we_op op_mod (we_v 3) we_int) (wa_k we_bl wa_nil)))))) wa_nil))))) (wg_name (i := 10) sc_law.nd rfl (Or.inl rfl)) (wss_cons (ws_set (i := 11) sc_law.nd rfl (Or.inl rfl) (we_fn F_bounds_of (hr.mono (by decide)) (wa_k (we_v 10) wa_nil)))
      (wss_one (ws_if (wt_cmp op_ne (we_cB (cl_repr hr.gd hr.units) (by rfl) T.b_repr (by decide +kernel) (wa_k (we_v 11) wa_nil)) (we_cB (cl_repr hr.gd hr.units) (by rfl) T.b_repr (by decide +kernel) (wa_k (we_fn F__law_due (hr.mono (by decide)) (wa_k (we_v 10) wa_nil)) wa_nil)) (nomark _)) (wss_one (ws_ret we_bl)) wss_nil))))))))))))
      (wss_one (ws_ret we_bl))), ?_⟩
    refine ⟨_, rfl, _, rfl, a, _, rfl, hS, fun q1 h1 => ?_⟩
    refine rlL upd_same ?_
    have s1 := Same.upd (o := .lst (cutV (ns.map V.int) none (some 14))) h1
    have l19 : (cutV (ns.map V.int) none (some 14)).length ≤ 63 := by
      rw [show (some (14 : Int)) = some ((14 : Nat) : Int) from rfl, cutV_hi, List.length_take, List.length_map]; (first | lia | omega)
    generalize upd H q1 (.lst (cutV (ns.map V.int) none (some 14))) = H0 at s1
    generalize (cutV (ns.map V.int) none (some 14)).length = n0 at l19
    refine ⟨_, _, rfl, rfl, _, rfl, by (first | lia | omega), by (first | lia | omega), ?_⟩
    refine for_range (fun i σ H' => ∃ o1 o2 o3 o4 o5 o6 o7 o8 o9 o10 o11 : Option V, σ = [some (.ref a), o1, o2, o3, o4, o5, o6, o7, o8, o9, o10, o11] ∧ Same H H') ⟨_, _, _, _, _, _, _, _, _, _, _, rfl, s1⟩ ?_ ?_
    · rintro i σ H1 hi ⟨o1, o2, o3, o4, o5, o6, o7, o8, o9, o10, o11, rfl, S1⟩
      refine ⟨_, rfl, _, rfl, ?_⟩
      refine sp_tape_i (sqL_keep S1 hS) hl (by (first | lia | omega)) fun p H2 T2 s2 hp2 => ?_
      refine nwL (by show 6 ≤ 64; decide) fun q3 H3 hq3 e3 s3 => ?_
      refine ⟨_, rfl, ?_⟩
      refine sp_pick_i (n := 999999999999) ((T2.same s3).less (by (first | lia | omega))) (by decide) (by decide +kernel) fun x H4 x0 x1 T4 b4 => ?_
      obtain ⟨v, hat, hmem, _⟩ := atI_mem (xs := [V.int 2, V.int 3, V.int 4, V.int 5, V.int 0, V.int 8]) x0 x1
      refine ixL (b4.at (T2.ne hq3) e3) hat ?_
      obtain ⟨m, rfl, hm⟩ : ∃ m : Nat, v = .int (m : Int) ∧ m ≤ 8 := by
        simp only [List.mem_cons, List.not_mem_nil, or_false] at hmem
        rcases hmem with rfl | rfl | rfl | rfl | rfl | rfl
        · exact ⟨2, rfl, by decide⟩
        · exact ⟨3, rfl, by decide⟩
        · exact ⟨4, rfl, by decide⟩
        · exact ⟨5, rfl, by decide⟩
        · exact ⟨0, rfl, by decide⟩
        · exact ⟨8, rfl, by decide⟩
      clear hat hmem x0 x1
      refine ⟨_, rfl, _, rfl, ?_⟩
      refine sp_bnds_i (n := 999999990000) (T4.less (by (first | lia | omega))) hm fun vb bs H5 T5 b5 rb hbs => ?_
      refine sp_by_i rb (by (first | lia | omega)) (by (first | lia | omega)) fun q6 v b es H6 s6 e6 r6 BO => ?_
      refine ixT e6 rfl ?_
      have T6 := T5.same s6
      have B6 : SameBut p H2 H6 := ((s3.but.trans b4).trans b5).trans s6.but
      clear T4 T5 b4 b5 s3 e3 hq3 rb hbs s6 e6
      obtain ⟨ar, xr, rfl, har, rxr⟩ := ruD_at r6
      have lxr : xr.length = es.length := by rw [rxr.len, List.length_map]
      have les := BO.len
      have le0 := List.length_pos_iff.mpr BO.ne
      refine ⟨_, rfl, _, rfl, ?_⟩
      refine rlT har ?_
      refine sp_pick_i (n := 999999980000) (T6.less (by (first | lia | omega))) (by (first | lia | omega)) (bitsle (Nat.lt_of_le_of_lt (show ((xr.length : Nat) : Int).natAbs ≤ 320 by (first | lia | omega)) (by decide))) fun y H7 y0 y1 T7 b7 => ?_
      have t7 := T6.t b7
      obtain ⟨at', rfl⟩ : ∃ n : Nat, y = (n : Int) := ⟨y.toNat, by (first | lia | omega)⟩
      have r7 := r6.flat t7 (show flatD (ruD es) = true from ens_flat es)
      obtain ⟨ar', xr', hh, har7, rxr7⟩ := ruD_at r7
      cases hh
      have har7' := t7 _ _ har
      rw [har7'] at har7
      cases har7
      obtain ⟨z, hz, rz⟩ := RepL.atX rxr7 (i := at') (a := es[at']'(by (first | lia | omega))) (by simp)
      obtain ⟨en, hen⟩ : ∃ en, es[at']? = some en := ⟨_, List.getElem?_eq_getElem (by (first | lia | omega))⟩
      have hee : es[at']'(by (first | lia | omega)) = en := by have := (List.getElem?_eq_some_iff.mp hen).2; exact this
      rw [hee] at rz
      refine ⟨_, rfl, _, rfl, ?_⟩
      refine ixT har7' (atI_nat hz) ?_
      obtain ⟨be, u, vs, rfl, hbe, ru, rvs⟩ := enD_at rz
      refine ⟨be, [u, vs], rfl, SqT.of hbe, rfl, u, [vs], rfl, vs, [], rfl, rfl, ?_⟩
      have r6' : Rep H7 (ruD es) (.ref ar) := r7
      have hsy := (BO.each en (List.mem_of_getElem? hen)).2.2.2
      have B7 : SameBut p H2 H7 := B6.trans b7
      clear T6 b7 t7 B6 r6 har rxr y0 hz hee
      refine ⟨fun σ H' => ∃ (o8 : Option V) (vb : V) (es2 : List Ent), σ = [some (.ref a), some (.int (0 + (i : Nat))), some (.ref p), some (.int (m : Int)), some (.ref ar), some (.int (at' : Int)), some u, some vs, o8, some vb, o10, o11] ∧ TapeAt H' p 999999970000 ∧ SameBut p H7 H' ∧ Rep H' (ruD es2) vb ∧ BuOk es2, ?_, ?_⟩
      · rintro σ H8 ⟨o8, vb, es2, rfl, T8, b8, r8, BO2⟩
        refine ⟨_, rfl, _, rfl, _, rfl, _, rfl, _, _, rfl, rfl, (show (0 : Int) < 5 by decide), ?_⟩
        refine sp_rule_e (M := m % 5) (n := 1000) (by (first | lia | omega)) (T8.less (by (first | lia | omega))) (by (first | lia | omega)) fun v9 es9 H9 T9 b9 r9 RO => ?_
        have t9 := T8.t b9
        have r8' := r8.flat t9 (show flatD (ruD es2) = true from ens_flat es2)
        have r6'' := (r6'.flat (T7.t b8) (show flatD (ruD es) = true from ens_flat es)).flat t9 (show flatD (ruD es) = true from ens_flat es)
        refine nwL (by show 3 ≤ 64; decide) fun q10 H10 hq10 e10 s10 => ?_
        have hx : ∀ x ∈ [V.ref ar, vb, v9], ∃ es, Rep H10 (ruD es) x ∧ BuOk es := fun x hx => by
          rcases List.mem_cons.mp hx with rfl | hx
          · exact ⟨es, r6''.same s10, BO⟩
          · rcases List.mem_cons.mp hx with rfl | hx
            · exact ⟨es2, r8'.same s10, BO2⟩
            · cases List.mem_singleton.mp hx; exact ⟨es9, r9.same s10, RO.bu (by (first | lia | omega))⟩
        have S10 : SameBut p H2 H10 := ((B7.trans b8).trans b9).trans s10.but
        clear r8 r8' r6' r6'' r9 RO BO BO2 t9 b8 b9 T8 T9 T7 r7 rxr7 ru rvs rz hbe har7' hen hsy
        refine ⟨q10, rfl, ⟨_, SqL.of e10⟩, ?_⟩
        refine for_list (xs := [.ref ar, vb, v9]) (fun j σ H' => ∃ (o10 o11 : Option V), σ = [some (.ref a), some (.int (0 + (i : Nat))), some (.ref p), some (.int (m : Int)), some (.ref ar), some (.int (at' : Int)), some u, some vs, o8, some vb, o10, o11] ∧ Same H10 H') ⟨_, _, rfl, Same.refl _⟩ (fun j σ H' _ q => ?_) ?_ ?_
        · obtain ⟨_, _, _, s'⟩ := q
          exact SqL.of (s' _ _ e10)
        · rintro j x σ H11 hj ⟨o10, o11, rfl, s11⟩
          obtain ⟨es, rx, BO⟩ := hx x (List.mem_of_getElem? hj)
          obtain ⟨el, L, hel, hL, hL8⟩ := BO.end
          have SH := due_show BO hL8
          refine ⟨_, rfl, ?_⟩
          refine sp_bounds_of_d (rx.same s11) BO hel hL fun y H12 s12 r12 => ?_
          refine ⟨_, rfl, ?_⟩
          refine rrS r12 SH ?_
          refine ⟨_, rfl, ?_⟩
          refine sp_bounds_of_d ((rx.same s11).same s12) BO hel hL fun z H13 s13 r13 => ?_
          refine rrS r13 SH ?_
          refine ⟨rfl, _, rfl, ?_⟩
          refine iteFe (by simp) ?_
          exact ⟨_, _, rfl, (s11.trans s12).trans s13⟩
        · rintro σ H11 ⟨o10, o11, rfl, s11⟩
          exact ⟨_, _, _, _, _, _, _, _, _, _, _, rfl, S1.trans (Same.thru hp2 s2 (S10.trans s11.but))⟩
      · obtain ⟨av, xv, rfl, hav, rxv⟩ := shD_at rvs
        obtain ⟨f, g, h, efs⟩ : ∃ f g h, en.2 = [f, g, h] := by
          obtain ⟨ns, hl, _, _, e⟩ := hsy.ex
          match ns, hl with
          | [a, b, c], _ => exact ⟨_, _, _, e⟩
        rw [efs] at rxv hsy
        obtain ⟨z0, hz0, rz0⟩ := RepL.atX (as := [f, g, h]) rxv (i := 0) (a := f) rfl
        obtain ⟨z1, hz1, rz1⟩ := RepL.atX (as := [f, g, h]) rxv (i := 1) (a := g) rfl
        obtain ⟨z2, hz2, rz2⟩ := RepL.atX (as := [f, g, h]) rxv (i := 2) (a := h) rfl
        refine ⟨_, rfl, ?_⟩
        refine ixT hav (atI_nat (j := 0) hz0) ?_
        refine nwT (by show 2 ≤ 64; decide) fun q8 H8 hq8 e8 s8 => ?_
        refine reD (rz0.same s8) (frD_of (f := (0, 1)) e8) rfl rfl ?_
        refine ⟨_, rfl, ?_⟩
        rw [Bool.true_beq, eqv_fr]
        refine iteD (fun hf => ?_) (fun hf => ?_)
        · have hav8 := s8 _ _ hav
          refine ⟨_, rfl, ?_⟩
          refine ixT hav8 (atI_nat (j := 0) hz0) ?_
          refine ⟨_, rfl, ?_⟩
          refine ixT hav8 (atI_nat (j := 2) hz2) ?_
          refine ⟨_, rfl, ?_⟩
          refine ixT hav8 (atI_nat (j := 1) hz1) ?_
          refine nwT (by show 3 ≤ 64; decide) fun q9 H9 hq9 e9 s9 => ?_
          have s79 := s8.trans s9
          refine ⟨_, rfl, _, rfl, _, rfl, ?_⟩
          refine slA_hi (s79 _ _ har7') fun q10 H10 s10 e10 => ?_
          refine ⟨_, rfl, _, rfl, ?_⟩
          refine nwT (by show 2 ≤ 64; decide) fun q11 H11 hq11 e11 s11 => ?_
          refine nwT (by show 1 ≤ 64; decide) fun q12 H12 hq12 e12 s12 => ?_
          refine catU (s12 _ _ (s11 _ _ e10)) e12 (by rw [List.length_take]; show min at' xr.length + 1 ≤ 1000; (first | lia | omega)) fun q13 H13 s13 e13 => ?_
          refine ⟨_, rfl, _, rfl, _, _, rfl, rfl, ?_⟩
          refine ⟨_, rfl, ?_⟩
          have s712 := ((s79.trans s10).trans s11).trans s12
          refine slA_loE (k := at' + 1) (by (first | lia | omega)) (s13 _ _ (s712 _ _ har7')) fun q14 H14 s14 e14 => ?_
          refine catU (s14 _ _ e13) e14 (by rw [List.length_append, List.length_take, List.length_drop]; show min at' xr.length + 1 + (xr.length - (at' + 1)) ≤ 1000; (first | lia | omega)) fun q15 H15 s15 e15 => ?_
          have s1115 := ((s12.trans s13).trans s14).trans s15
          have s915 := (s10.trans s11).trans s1115
          have S := s79.trans s915
          refine ⟨_, _, es.take at' ++ [(en.1, [f, h, g])] ++ es.drop (at' + 1), rfl, (T7.same S).less (by (first | lia | omega)), S.but, ?_, BO.bent hen hsy.swap⟩
          refine Rep.tup e15 ?_
          have rx15 := rxr7.same S
          rw [List.map_append, List.map_append]
          refine RepL.append ?_ (RepL.append ?_ ?_)
          · rw [List.map_drop]; exact RepL.drop _ rx15
          · exact RepL.cons (Rep.tup (s1115 _ _ e11) (RepL.cons (ru.same S) (RepL.cons (Rep.tup (s915 _ _ e9) (RepL.cons (rz0.same S) (RepL.cons (rz2.same S) (RepL.cons (rz1.same S) RepL.nil)))) RepL.nil))) RepL.nil
          · rw [List.map_take]; exact RepL.take _ rx15
        · refine ⟨_, rfl, _, rfl, _, _, rfl, rfl, (show (0 : Int) < 5 by decide), ?_⟩
          refine sp_rule_e (M := m % 5) (n := 999999970000) (by (first | lia | omega)) ((T7.same s8).less (by (first | lia | omega))) (by (first | lia | omega)) fun v9 es9 H9 T9 b9 r9 RO => ?_
          exact ⟨_, v9, es9, rfl, T9, s8.but.trans b9, r9, RO.bu (by (first | lia | omega))⟩
    · rintro σ H1 ⟨o1, o2, o3, o4, o5, o6, o7, o8, o9, o10, o11, rfl, S1⟩
      exact k H1
end
theorem len1 {α : Type} {us : List α} (h : us.length = 1) : ∃ a, us = [a] := match us, h with | [a], _ => ⟨a, rfl⟩
theorem len2 {α : Type} {us : List α} (h : us.length = 2) : ∃ a b, us = [a, b] := match us, h with | [a, b], _ => ⟨a, b, rfl⟩
theorem len3 {α : Type} {us : List α} (h : us.length = 3) : ∃ a b c, us = [a, b, c] := match us, h with | [a, b, c], _ => ⟨a, b, c, rfl⟩
theorem len4 {α : Type} {us : List α} (h : us.length = 4) : ∃ a b c d, us = [a, b, c, d] := match us, h with | [a, b, c, d], _ => ⟨a, b, c, d, rfl⟩
theorem len5 {α : Type} {us : List α} (h : us.length = 5) : ∃ a b c d e, us = [a, b, c, d, e] := match us, h with | [a, b, c, d, e], _ => ⟨a, b, c, d, e, rfl⟩
set_option maxHeartbeats 0 in
theorem all_mk {l : PySem.W.OpenLaw} {w : World} {K : PySem.W.Frag} {h : Heap} {mg : Str → Option Value} {fa : Addr} {c_ONE : Addr} {c_ON : Addr} {c_SAYS_FIRST : Addr} {c_SAYS_SECOND : Addr} {f0 : Addr} {od0 an0 : Option Addr} {sl0 : Array (Option Value)} {oc0 kV0 dc0 pm0 cd0 ct0 : Value} {f1 : Addr} {od1 an1 : Option Addr} {sl1 : Array (Option Value)} {oc1 kV1 dc1 pm1 cd1 ct1 : Value} {f2 : Addr} {od2 an2 : Option Addr} {sl2 : Array (Option Value)} {oc2 kV2 dc2 pm2 cd2 ct2 : Value} {f3 : Addr} {od3 an3 : Option Addr} {sl3 : Array (Option Value)} {oc3 kV3 dc3 pm3 cd3 ct3 : Value} {f4 : Addr} {od4 an4 : Option Addr} {sl4 : Array (Option Value)} {oc4 kV4 dc4 pm4 cd4 ct4 : Value} {f5 : Addr} {od5 an5 : Option Addr} {sl5 : Array (Option Value)} {oc5 kV5 dc5 pm5 cd5 ct5 : Value} {f6 : Addr} {od6 an6 : Option Addr} {sl6 : Array (Option Value)} {oc6 kV6 dc6 pm6 cd6 ct6 : Value} {f7 : Addr} {od7 an7 : Option Addr} {sl7 : Array (Option Value)} {oc7 kV7 dc7 pm7 cd7 ct7 : Value} {f8 : Addr} {od8 an8 : Option Addr} {sl8 : Array (Option Value)} {oc8 kV8 dc8 pm8 cd8 ct8 : Value} {f9 : Addr} {od9 an9 : Option Addr} {sl9 : Array (Option Value)} {oc9 kV9 dc9 pm9 cd9 ct9 : Value} {f10 : Addr} {od10 an10 : Option Addr} {sl10 : Array (Option Value)} {oc10 kV10 dc10 pm10 cd10 ct10 : Value} {f11 : Addr} {od11 an11 : Option Addr} {sl11 : Array (Option Value)} {oc11 kV11 dc11 pm11 cd11 ct11 : Value} {f12 : Addr} {od12 an12 : Option Addr} {sl12 : Array (Option Value)} {oc12 kV12 dc12 pm12 cd12 ct12 : Value} {f13 : Addr} {od13 an13 : Option Addr} {sl13 : Array (Option Value)} {oc13 kV13 dc13 pm13 cd13 ct13 : Value} {f14 : Addr} {od14 an14 : Option Addr} {sl14 : Array (Option Value)} {oc14 kV14 dc14 pm14 cd14 ct14 : Value} {f15 : Addr} {od15 an15 : Option Addr} {sl15 : Array (Option Value)} {oc15 kV15 dc15 pm15 cd15 ct15 : Value} {f16 : Addr} {od16 an16 : Option Addr} {sl16 : Array (Option Value)} {oc16 kV16 dc16 pm16 cd16 ct16 : Value} {f17 : Addr} {od17 an17 : Option Addr} {sl17 : Array (Option Value)} {oc17 kV17 dc17 pm17 cd17 ct17 : Value} (X : K.In h) (G : h.Ns mainGlobals mg) (hfa : mg "law" = some (.ref fa))
    (u_ONE : PySem.W.nsIn K mainGlobals "ONE" = some (some (.ref c_ONE)))
    (u_ON : PySem.W.nsIn K mainGlobals "ON" = some (some (.ref c_ON)))
    (u_SAYS_FIRST : PySem.W.nsIn K mainGlobals "SAYS_FIRST" = some (some (.ref c_SAYS_FIRST)))
    (u_SAYS_SECOND : PySem.W.nsIn K mainGlobals "SAYS_SECOND" = some (some (.ref c_SAYS_SECOND)))
    (o_ONE : intsIn K c_ONE [1, 1] = true)
    (o_ON : prsIn K c_ON [(1, 1), (0, 1), (0, 1)] = true)
    (o_SAYS_FIRST : prsIn K c_SAYS_FIRST [(0, 1), (1, 1), (0, 1)] = true)
    (o_SAYS_SECOND : prsIn K c_SAYS_SECOND [(0, 1), (0, 1), (1, 1)] = true)
    (a0 : PySem.W.nsIn K mainGlobals "most_of" = some (some (.ref f0))) (l0 : K.lookup f0 = some ⟨oc0, od0, .func (PySem.W.fnOf "most_of" "most_of" (defArgs s_most_of) (defBody s_most_of) (defScope s_most_of) .none kV0 dc0 pm0 an0 cd0 ct0), sl0⟩) (c0 : PySem.W.codeIn K cd0 "most_of" = true) (k0 : PySem.W.keepIn K (.ref f0) = true)
    (a1 : PySem.W.nsIn K mainGlobals "is_plain" = some (some (.ref f1))) (l1 : K.lookup f1 = some ⟨oc1, od1, .func (PySem.W.fnOf "is_plain" "is_plain" (defArgs s_is_plain) (defBody s_is_plain) (defScope s_is_plain) .none kV1 dc1 pm1 an1 cd1 ct1), sl1⟩) (c1 : PySem.W.codeIn K cd1 "is_plain" = true) (k1 : PySem.W.keepIn K (.ref f1) = true)
    (a2 : PySem.W.nsIn K mainGlobals "closest_bounds" = some (some (.ref f2))) (l2 : K.lookup f2 = some ⟨oc2, od2, .func (PySem.W.fnOf "closest_bounds" "closest_bounds" (defArgs s_closest_bounds) (defBody s_closest_bounds) (defScope s_closest_bounds) .none kV2 dc2 pm2 an2 cd2 ct2), sl2⟩) (c2 : PySem.W.codeIn K cd2 "closest_bounds" = true) (k2 : PySem.W.keepIn K (.ref f2) = true)
    (a3 : PySem.W.nsIn K mainGlobals "says_by" = some (some (.ref f3))) (l3 : K.lookup f3 = some ⟨oc3, od3, .func (PySem.W.fnOf "says_by" "says_by" (defArgs s_says_by) (defBody s_says_by) (defScope s_says_by) .none kV3 dc3 pm3 an3 cd3 ct3), sl3⟩) (c3 : PySem.W.codeIn K cd3 "says_by" = true) (k3 : PySem.W.keepIn K (.ref f3) = true)
    (a4 : PySem.W.nsIn K mainGlobals "bounds_of" = some (some (.ref f4))) (l4 : K.lookup f4 = some ⟨oc4, od4, .func (PySem.W.fnOf "bounds_of" "bounds_of" (defArgs s_bounds_of) (defBody s_bounds_of) (defScope s_bounds_of) .none kV4 dc4 pm4 an4 cd4 ct4), sl4⟩) (c4 : PySem.W.codeIn K cd4 "bounds_of" = true) (k4 : PySem.W.keepIn K (.ref f4) = true)
    (a5 : PySem.W.nsIn K mainGlobals "_law_tape" = some (some (.ref f5))) (l5 : K.lookup f5 = some ⟨oc5, od5, .func (PySem.W.fnOf "_law_tape" "_law_tape" (defArgs s__law_tape) (defBody s__law_tape) (defScope s__law_tape) .none kV5 dc5 pm5 an5 cd5 ct5), sl5⟩) (c5 : PySem.W.codeIn K cd5 "_law_tape" = true) (k5 : PySem.W.keepIn K (.ref f5) = true)
    (a6 : PySem.W.nsIn K mainGlobals "_law_pick" = some (some (.ref f6))) (l6 : K.lookup f6 = some ⟨oc6, od6, .func (PySem.W.fnOf "_law_pick" "_law_pick" (defArgs s__law_pick) (defBody s__law_pick) (defScope s__law_pick) .none kV6 dc6 pm6 an6 cd6 ct6), sl6⟩) (c6 : PySem.W.codeIn K cd6 "_law_pick" = true) (k6 : PySem.W.keepIn K (.ref f6) = true)
    (a7 : PySem.W.nsIn K mainGlobals "_law_frac" = some (some (.ref f7))) (l7 : K.lookup f7 = some ⟨oc7, od7, .func (PySem.W.fnOf "_law_frac" "_law_frac" (defArgs s__law_frac) (defBody s__law_frac) (defScope s__law_frac) .none kV7 dc7 pm7 an7 cd7 ct7), sl7⟩) (c7 : PySem.W.codeIn K cd7 "_law_frac" = true) (k7 : PySem.W.keepIn K (.ref f7) = true)
    (a8 : PySem.W.nsIn K mainGlobals "_law_shares" = some (some (.ref f8))) (l8 : K.lookup f8 = some ⟨oc8, od8, .func (PySem.W.fnOf "_law_shares" "_law_shares" (defArgs s__law_shares) (defBody s__law_shares) (defScope s__law_shares) .none kV8 dc8 pm8 an8 cd8 ct8), sl8⟩) (c8 : PySem.W.codeIn K cd8 "_law_shares" = true) (k8 : PySem.W.keepIn K (.ref f8) = true)
    (a9 : PySem.W.nsIn K mainGlobals "_law_says" = some (some (.ref f9))) (l9 : K.lookup f9 = some ⟨oc9, od9, .func (PySem.W.fnOf "_law_says" "_law_says" (defArgs s__law_says) (defBody s__law_says) (defScope s__law_says) .none kV9 dc9 pm9 an9 cd9 ct9), sl9⟩) (c9 : PySem.W.codeIn K cd9 "_law_says" = true) (k9 : PySem.W.keepIn K (.ref f9) = true)
    (a10 : PySem.W.nsIn K mainGlobals "_law_next" = some (some (.ref f10))) (l10 : K.lookup f10 = some ⟨oc10, od10, .func (PySem.W.fnOf "_law_next" "_law_next" (defArgs s__law_next) (defBody s__law_next) (defScope s__law_next) .none kV10 dc10 pm10 an10 cd10 ct10), sl10⟩) (c10 : PySem.W.codeIn K cd10 "_law_next" = true) (k10 : PySem.W.keepIn K (.ref f10) = true)
    (a11 : PySem.W.nsIn K mainGlobals "_law_rule" = some (some (.ref f11))) (l11 : K.lookup f11 = some ⟨oc11, od11, .func (PySem.W.fnOf "_law_rule" "_law_rule" (defArgs s__law_rule) (defBody s__law_rule) (defScope s__law_rule) .none kV11 dc11 pm11 an11 cd11 ct11), sl11⟩) (c11 : PySem.W.codeIn K cd11 "_law_rule" = true) (k11 : PySem.W.keepIn K (.ref f11) = true)
    (a12 : PySem.W.nsIn K mainGlobals "_law_bounds" = some (some (.ref f12))) (l12 : K.lookup f12 = some ⟨oc12, od12, .func (PySem.W.fnOf "_law_bounds" "_law_bounds" (defArgs s__law_bounds) (defBody s__law_bounds) (defScope s__law_bounds) .none kV12 dc12 pm12 an12 cd12 ct12), sl12⟩) (c12 : PySem.W.codeIn K cd12 "_law_bounds" = true) (k12 : PySem.W.keepIn K (.ref f12) = true)
    (a13 : PySem.W.nsIn K mainGlobals "_law_place" = some (some (.ref f13))) (l13 : K.lookup f13 = some ⟨oc13, od13, .func (PySem.W.fnOf "_law_place" "_law_place" (defArgs s__law_place) (defBody s__law_place) (defScope s__law_place) .none kV13 dc13 pm13 an13 cd13 ct13), sl13⟩) (c13 : PySem.W.codeIn K cd13 "_law_place" = true) (k13 : PySem.W.keepIn K (.ref f13) = true)
    (a14 : PySem.W.nsIn K mainGlobals "_law_by" = some (some (.ref f14))) (l14 : K.lookup f14 = some ⟨oc14, od14, .func (PySem.W.fnOf "_law_by" "_law_by" (defArgs s__law_by) (defBody s__law_by) (defScope s__law_by) .none kV14 dc14 pm14 an14 cd14 ct14), sl14⟩) (c14 : PySem.W.codeIn K cd14 "_law_by" = true) (k14 : PySem.W.keepIn K (.ref f14) = true)
    (a15 : PySem.W.nsIn K mainGlobals "_law_pair_right" = some (some (.ref f15))) (l15 : K.lookup f15 = some ⟨oc15, od15, .func (PySem.W.fnOf "_law_pair_right" "_law_pair_right" (defArgs s__law_pair_right) (defBody s__law_pair_right) (defScope s__law_pair_right) .none kV15 dc15 pm15 an15 cd15 ct15), sl15⟩) (c15 : PySem.W.codeIn K cd15 "_law_pair_right" = true) (k15 : PySem.W.keepIn K (.ref f15) = true)
    (a16 : PySem.W.nsIn K mainGlobals "_law_due" = some (some (.ref f16))) (l16 : K.lookup f16 = some ⟨oc16, od16, .func (PySem.W.fnOf "_law_due" "_law_due" (defArgs s__law_due) (defBody s__law_due) (defScope s__law_due) .none kV16 dc16 pm16 an16 cd16 ct16), sl16⟩) (c16 : PySem.W.codeIn K cd16 "_law_due" = true) (k16 : PySem.W.keepIn K (.ref f16) = true)
    (a17 : PySem.W.nsIn K mainGlobals "law" = some (some (.ref f17))) (l17 : K.lookup f17 = some ⟨oc17, od17, .func (PySem.W.fnOf "law" "law" (defArgs s_law) (defBody s_law) (defScope s_law) .none kV17 dc17 pm17 an17 cd17 ct17), sl17⟩) (c17 : PySem.W.codeIn K cd17 "law" = true) (k17 : PySem.W.keepIn K (.ref f17) = true) (z0 : PySem.W.nsIn K mainGlobals "list" = some none) (z1 : PySem.W.nsIn K mainGlobals "len" = some none) (z2 : PySem.W.nsIn K mainGlobals "abs" = some none) (z3 : PySem.W.nsIn K mainGlobals "repr" = some none) (z4 : PySem.W.nsIn K mainGlobals "range" = some none) (z5 : PySem.W.nsIn K mainGlobals "sum" = some none) (z6 : PySem.W.nsIn K mainGlobals "max" = some none) (z7 : PySem.W.nsIn K mainGlobals "int" = some none) (z8 : PySem.W.nsIn K mainGlobals "sorted" = some none) (z9 : PySem.W.nsIn K mainGlobals "all" = some none) (z10 : PySem.W.nsIn K mainGlobals "min" = some none) (z11 : PySem.W.nsIn K mainGlobals "tuple" = some none) :
    ∃ fd : FuncData, (∀ (s : Shared) (v : Value), BindsTo s fd ⟨[v], []⟩ [("_law_script", v)]) ∧ ∀ base : Heap, K.In base → base.Ns mainGlobals mg → FnOk l.prog w K mg base CX0 5 fa fd ["_law_script"] (sp_law K) := by
  have e := hfa.symm.trans (PySem.W.mg_of X G a17)
  cases e
  generalize hcl : (⟨c_ONE, c_ON, c_SAYS_FIRST, c_SAYS_SECOND⟩ : Cl) = c
  have T : Txt K mg c := by rw [← hcl]; exact ⟨PySem.W.mg_none_of X G z0, PySem.W.mg_none_of X G z1, PySem.W.mg_none_of X G z2, PySem.W.mg_none_of X G z3, PySem.W.mg_none_of X G z4, PySem.W.mg_none_of X G z5, PySem.W.mg_none_of X G z6, PySem.W.mg_none_of X G z7, PySem.W.mg_none_of X G z8, PySem.W.mg_none_of X G z9, PySem.W.mg_none_of X G z10, PySem.W.mg_none_of X G z11, PySem.W.mg_of X G u_ONE, PySem.W.mg_of X G u_ON, PySem.W.mg_of X G u_SAYS_FIRST, PySem.W.mg_of X G u_SAYS_SECOND, o_ONE, o_ON, o_SAYS_FIRST, o_SAYS_SECOND⟩
  have F0 := fun_mk (st := s_most_of) l0 c0 k0
  have b0 := F0.binds (ps := ["rule"]) fun _ _ _ _ _ _ us hl => by obtain ⟨_, rfl⟩ := len1 (show us.length = 1 from hl); rfl
  have G_most_of : ∀ base : Heap, FnC CX0 l.prog w K mg base 1 "most_of" ["rule"] (sp_most_of) := fun base => ⟨_, _, ok_most_of F0 T, PySem.W.mg_of X G a0, k0, b0⟩
  have F1 := fun_mk (st := s_is_plain) l1 c1 k1
  have b1 := F1.binds (ps := ["rule"]) fun _ _ _ _ _ _ us hl => by obtain ⟨_, rfl⟩ := len1 (show us.length = 1 from hl); rfl
  have G_is_plain : ∀ base : Heap, FnC CX0 l.prog w K mg base 1 "is_plain" ["rule"] (sp_is_plain) := fun base => ⟨_, _, ok_is_plain F1 T, PySem.W.mg_of X G a1, k1, b1⟩
  have F2 := fun_mk (st := s_closest_bounds) l2 c2 k2
  have b2 := F2.binds (ps := ["rule", "looks"]) fun _ _ _ _ _ _ us hl => by obtain ⟨_, _, rfl⟩ := len2 (show us.length = 2 from hl); rfl
  have G_closest_bounds : ∀ base : Heap, FnC CX0 l.prog w K mg base 1 "closest_bounds" ["rule", "looks"] (sp_closest) := fun base => ⟨_, _, ok_closest_bounds F2 T, PySem.W.mg_of X G a2, k2, b2⟩
  have F3 := fun_mk (st := s_says_by) l3 c3 k3
  have b3 := F3.binds (ps := ["bounds", "counts"]) fun _ _ _ _ _ _ us hl => by obtain ⟨_, _, rfl⟩ := len2 (show us.length = 2 from hl); rfl
  have G_says_by : ∀ base : Heap, FnC CX0 l.prog w K mg base 1 "says_by" ["bounds", "counts"] (sp_says_by K) := fun base => ⟨_, _, ok_says_by F3 T, PySem.W.mg_of X G a3, k3, b3⟩
  have F4 := fun_mk (st := s_bounds_of) l4 c4 k4
  have b4 := F4.binds (ps := ["rule"]) fun _ _ _ _ _ _ us hl => by obtain ⟨_, rfl⟩ := len1 (show us.length = 1 from hl); rfl
  have G_bounds_of : ∀ base : Heap, FnC CX0 l.prog w K mg base 2 "bounds_of" ["rule"] (sp_bounds_of) := fun base => ⟨_, _, ok_bounds_of F4 T (G_is_plain base) (G_most_of base) (G_closest_bounds base) (G_says_by base), PySem.W.mg_of X G a4, k4, b4⟩
  have F5 := fun_mk (st := s__law_tape) l5 c5 k5
  have b5 := F5.binds (ps := ["_law_script", "_law_at"]) fun _ _ _ _ _ _ us hl => by obtain ⟨_, _, rfl⟩ := len2 (show us.length = 2 from hl); rfl
  have G__law_tape : ∀ base : Heap, FnC CX0 l.prog w K mg base 1 "_law_tape" ["_law_script", "_law_at"] (sp_tape K) := fun base => ⟨_, _, ok__law_tape F5 T, PySem.W.mg_of X G a5, k5, b5⟩
  have F6 := fun_mk (st := s__law_pick) l6 c6 k6
  have b6 := F6.binds (ps := ["_law_tape_here", "_law_many"]) fun _ _ _ _ _ _ us hl => by obtain ⟨_, _, rfl⟩ := len2 (show us.length = 2 from hl); rfl
  have G__law_pick : ∀ base : Heap, FnC CX0 l.prog w K mg base 1 "_law_pick" ["_law_tape_here", "_law_many"] (sp_pick) := fun base => ⟨_, _, ok__law_pick F6 T, PySem.W.mg_of X G a6, k6, b6⟩
  have F7 := fun_mk (st := s__law_frac) l7 c7 k7
  have b7 := F7.binds (ps := ["_law_n", "_law_d"]) fun _ _ _ _ _ _ us hl => by obtain ⟨_, _, rfl⟩ := len2 (show us.length = 2 from hl); rfl
  have G__law_frac : ∀ base : Heap, FnC CX0 l.prog w K mg base 1 "_law_frac" ["_law_n", "_law_d"] (sp_lfrac) := fun base => ⟨_, _, ok__law_frac F7 T, PySem.W.mg_of X G a7, k7, b7⟩
  have F8 := fun_mk (st := s__law_shares) l8 c8 k8
  have b8 := F8.binds (ps := ["_law_tape_here", "_law_many"]) fun _ _ _ _ _ _ us hl => by obtain ⟨_, _, rfl⟩ := len2 (show us.length = 2 from hl); rfl
  have G__law_shares : ∀ base : Heap, FnC CX0 l.prog w K mg base 2 "_law_shares" ["_law_tape_here", "_law_many"] (sp_shares) := fun base => ⟨_, _, ok__law_shares F8 T (G__law_pick base) (G__law_frac base), PySem.W.mg_of X G a8, k8, b8⟩
  have F9 := fun_mk (st := s__law_says) l9 c9 k9
  have b9 := F9.binds (ps := ["_law_tape_here", "_law_ways", "_law_stops", "_law_plain"]) fun _ _ _ _ _ _ us hl => by obtain ⟨_, _, _, _, rfl⟩ := len4 (show us.length = 4 from hl); rfl
  have G__law_says : ∀ base : Heap, FnC CX0 l.prog w K mg base 3 "_law_says" ["_law_tape_here", "_law_ways", "_law_stops", "_law_plain"] (sp_says) := fun base => ⟨_, _, ok__law_says F9 T (G__law_pick base) (G__law_shares base), PySem.W.mg_of X G a9, k9, b9⟩
  have F10 := fun_mk (st := s__law_next) l10 c10 k10
  have b10 := F10.binds (ps := ["_law_counts", "_law_says_here"]) fun _ _ _ _ _ _ us hl => by obtain ⟨_, _, rfl⟩ := len2 (show us.length = 2 from hl); rfl
  have G__law_next : ∀ base : Heap, FnC CX0 l.prog w K mg base 1 "_law_next" ["_law_counts", "_law_says_here"] (sp_next) := fun base => ⟨_, _, ok__law_next F10 T, PySem.W.mg_of X G a10, k10, b10⟩
  have F11 := fun_mk (st := s__law_rule) l11 c11 k11
  have b11 := F11.binds (ps := ["_law_tape_here", "_law_faces", "_law_ways", "_law_most", "_law_plain"]) fun _ _ _ _ _ _ us hl => by obtain ⟨_, _, _, _, _, rfl⟩ := len5 (show us.length = 5 from hl); rfl
  have G__law_rule : ∀ base : Heap, FnC CX0 l.prog w K mg base 4 "_law_rule" ["_law_tape_here", "_law_faces", "_law_ways", "_law_most", "_law_plain"] (sp_rule) := fun base => ⟨_, _, ok__law_rule F11 T (G__law_says base) (G__law_next base), PySem.W.mg_of X G a11, k11, b11⟩
  have F12 := fun_mk (st := s__law_bounds) l12 c12 k12
  have b12 := F12.binds (ps := ["_law_tape_here", "_law_most"]) fun _ _ _ _ _ _ us hl => by obtain ⟨_, _, rfl⟩ := len2 (show us.length = 2 from hl); rfl
  have G__law_bounds : ∀ base : Heap, FnC CX0 l.prog w K mg base 2 "_law_bounds" ["_law_tape_here", "_law_most"] (sp_bnds) := fun base => ⟨_, _, ok__law_bounds F12 T (G__law_pick base), PySem.W.mg_of X G a12, k12, b12⟩
  have F13 := fun_mk (st := s__law_place) l13 c13 k13
  have b13 := F13.binds (ps := ["_law_pair", "_law_seen"]) fun _ _ _ _ _ _ us hl => by obtain ⟨_, _, rfl⟩ := len2 (show us.length = 2 from hl); rfl
  have G__law_place : ∀ base : Heap, FnC CX0 l.prog w K mg base 1 "_law_place" ["_law_pair", "_law_seen"] (sp_lplace K) := fun base => ⟨_, _, ok__law_place F13 T, PySem.W.mg_of X G a13, k13, b13⟩
  have F14 := fun_mk (st := s__law_by) l14 c14 k14
  have b14 := F14.binds (ps := ["_law_bounds_here"]) fun _ _ _ _ _ _ us hl => by obtain ⟨_, rfl⟩ := len1 (show us.length = 1 from hl); rfl
  have G__law_by : ∀ base : Heap, FnC CX0 l.prog w K mg base 2 "_law_by" ["_law_bounds_here"] (sp_by) := fun base => ⟨_, _, ok__law_by F14 T (G__law_place base), PySem.W.mg_of X G a14, k14, b14⟩
  have F15 := fun_mk (st := s__law_pair_right) l15 c15 k15
  have b15 := F15.binds (ps := ["_law_rule_here", "_law_k", "_law_pair"]) fun _ _ _ _ _ _ us hl => by obtain ⟨_, _, _, rfl⟩ := len3 (show us.length = 3 from hl); rfl
  have G__law_pair_right : ∀ base : Heap, FnC CX0 l.prog w K mg base 2 "_law_pair_right" ["_law_rule_here", "_law_k", "_law_pair"] (sp_lpair) := fun base => ⟨_, _, ok__law_pair_right F15 T (G__law_place base), PySem.W.mg_of X G a15, k15, b15⟩
  have F16 := fun_mk (st := s__law_due) l16 c16 k16
  have b16 := F16.binds (ps := ["_law_rule_here"]) fun _ _ _ _ _ _ us hl => by obtain ⟨_, rfl⟩ := len1 (show us.length = 1 from hl); rfl
  have G__law_due : ∀ base : Heap, FnC CX0 l.prog w K mg base 3 "_law_due" ["_law_rule_here"] (sp_bounds_of) := fun base => ⟨_, _, ok__law_due F16 T (G__law_pair_right base), PySem.W.mg_of X G a16, k16, b16⟩
  have F17 := fun_mk (st := s_law) l17 c17 k17
  exact ⟨_, fun s v => .of_eq rfl, fun base _ _ => ok_law F17 T (G__law_tape base) (G__law_pick base) (G__law_by base) (G__law_bounds base) (G__law_rule base) (G_bounds_of base) (G__law_due base)⟩
end Kw
open PySem PySem.W PyProof.Rows
set_option maxRecDepth 100000 in
set_option maxHeartbeats 0 in
theorem PySem.Challenge.cw_earlystop_k25_bounds_of_rules_holds : PySem.Challenge.rw_earlystop_k25_bounds_of_rules.Holds := by
  w_on; o_law; k_head; (case hw => w_witness2)
  k_fill
  refine L2.walk_ofK (l := PySem.Challenge.rw_earlystop_k25_bounds_of_rules) (n := 63) (k := 5) (x := "_law_script") (CX := L2.CX0) (sp := fun K => Kw.sp_law K) rfl (by decide) rfl ⟨rfl, by decide, by decide, rfl⟩ (fun w h Y => PySem.W.kIn_of Y) ?F (fun K H a ns hl _ hS => Kw.sp_law_i hS hl) (fun _ _ _ _ z => z)
  case F =>
    intro w mg fa h KX G hmg
    refine' Kw.all_mk KX G hmg ?u_ONE ?u_ON ?u_SAYS_FIRST ?u_SAYS_SECOND ?o_ONE ?o_ON ?o_SAYS_FIRST ?o_SAYS_SECOND ?a0 ?l0 ?c0 ?k0 ?a1 ?l1 ?c1 ?k1 ?a2 ?l2 ?c2 ?k2 ?a3 ?l3 ?c3 ?k3 ?a4 ?l4 ?c4 ?k4 ?a5 ?l5 ?c5 ?k5 ?a6 ?l6 ?c6 ?k6 ?a7 ?l7 ?c7 ?k7 ?a8 ?l8 ?c8 ?k8 ?a9 ?l9 ?c9 ?k9 ?a10 ?l10 ?c10 ?k10 ?a11 ?l11 ?c11 ?k11 ?a12 ?l12 ?c12 ?k12 ?a13 ?l13 ?c13 ?k13 ?a14 ?l14 ?c14 ?k14 ?a15 ?l15 ?c15 ?k15 ?a16 ?l16 ?c16 ?k16 ?a17 ?l17 ?c17 ?k17 ?z0 ?z1 ?z2 ?z3 ?z4 ?z5 ?z6 ?z7 ?z8 ?z9 ?z10 ?z11
    (case u_ONE => k_is); (case u_ON => k_is); (case u_SAYS_FIRST => k_is); (case u_SAYS_SECOND => k_is); (case o_ONE => kernel_rfl); (case o_ON => kernel_rfl); (case o_SAYS_FIRST => kernel_rfl); (case o_SAYS_SECOND => kernel_rfl); (case a0 => k_is); (case l0 => k_is); (case c0 => k_is); (case k0 => k_is); (case a1 => k_is); (case l1 => k_is); (case c1 => k_is); (case k1 => k_is); (case a2 => k_is); (case l2 => k_is); (case c2 => k_is); (case k2 => k_is); (case a3 => k_is); (case l3 => k_is); (case c3 => k_is); (case k3 => k_is); (case a4 => k_is); (case l4 => k_is); (case c4 => k_is); (case k4 => k_is); (case a5 => k_is); (case l5 => k_is); (case c5 => k_is); (case k5 => k_is); (case a6 => k_is); (case l6 => k_is); (case c6 => k_is); (case k6 => k_is); (case a7 => k_is); (case l7 => k_is); (case c7 => k_is); (case k7 => k_is); (case a8 => k_is); (case l8 => k_is); (case c8 => k_is); (case k8 => k_is); (case a9 => k_is); (case l9 => k_is); (case c9 => k_is); (case k9 => k_is); (case a10 => k_is); (case l10 => k_is); (case c10 => k_is); (case k10 => k_is); (case a11 => k_is); (case l11 => k_is); (case c11 => k_is); (case k11 => k_is); (case a12 => k_is); (case l12 => k_is); (case c12 => k_is); (case k12 => k_is); (case a13 => k_is); (case l13 => k_is); (case c13 => k_is); (case k13 => k_is); (case a14 => k_is); (case l14 => k_is); (case c14 => k_is); (case k14 => k_is); (case a15 => k_is); (case l15 => k_is); (case c15 => k_is); (case k15 => k_is); (case a16 => k_is); (case l16 => k_is); (case c16 => k_is); (case k16 => k_is); (case a17 => k_is); (case l17 => k_is); (case c17 => k_is); (case k17 => k_is); (case z0 => k_is); (case z1 => k_is); (case z2 => k_is); (case z3 => k_is); (case z4 => k_is); (case z5 => k_is); (case z6 => k_is); (case z7 => k_is); (case z8 => k_is); (case z9 => k_is); (case z10 => k_is); (case z11 => k_is)
