import PyProof.Rows.All
import Wide.All
import OpenK.AllK
import Wide.FinOn
import Lean
import PyProof.EqAt
import PyProof.EqKinds
import PyProof.TupleCall
import KE.IntBitsLaws
import PyProof.ZipIter
import PyProof.ListMulRoad
import PyProof.AutoListH
import PyProof.Rows.SeqMore
import PyProof.Rows.SumAny
import PyProof.StationsW
import PyProof.Rows.CatchBare
import OpenK.KRaise
import KE.KIsAll
import OpenK.KOwn
import PySem.Challenge.RW_earlystop_k12_whole_rows_come_to_one
set_option Elab.async false
set_option linter.all false
set_option maxRecDepth 100000
/-! THE HAND LAYER, for ints, bools, texts, own classes, LISTS and tuples (index, slices, in, append, pop ..), calls, loops. Paste it whole ahead of your own text; what your proof does not reach may be deleted. -/
namespace L2
open PySem PySem.Spec PyProof.Rows
/-- a key: an int or a str -/
abbrev Key := Sum Int Str
def keyIs : Key → Value → Bool
  | .inl k, v => Value.isInt k v
  | .inr x, v => Value.isStrOf x v
def keyH (w : World) : Key → Int
  | .inl k => hashInt k
  | .inr x => hashStr w x
theorem keyIs_shape : ∀ {k : Key} {v : Value}, keyIs k v = true → (∃ i t, k = Sum.inl i ∧ v = Value.int i t) ∨ (∃ x t, k = Sum.inr x ∧ v = Value.str x t)
  | .inl i, v, h => by
    obtain ⟨t, e⟩ := Value.isInt_shape (k := i) (v := v) h
    exact .inl ⟨i, t, rfl, e⟩
  | .inr x, v, h => by
    obtain ⟨t, e⟩ := Value.isStrOf_shape (x := x) (v := v) h
    exact .inr ⟨x, t, rfl, e⟩
theorem key_ll (a b : Int) : decide ((Sum.inl a : Key) = Sum.inl b) = (a == b) := by
  by_cases e : a = b
  · subst e; simp
  · have h : ¬ (Sum.inl a : Key) = Sum.inl b := fun q => e (Sum.inl.inj q)
    rw [decide_eq_false h]
    exact (beq_eq_false_iff_ne.mpr e).symm
theorem key_rr (a b : Str) : decide ((Sum.inr a : Key) = Sum.inr b) = decide (a = b) := by
  by_cases e : a = b
  · subst e; simp
  · have h : ¬ (Sum.inr a : Key) = Sum.inr b := fun q => e (Sum.inr.inj q)
    rw [decide_eq_false h, decide_eq_false e]
theorem key_lr (a : Int) (b : Str) : decide ((Sum.inl a : Key) = Sum.inr b) = false := decide_eq_false (fun q => nomatch q)
theorem key_rl (a : Str) (b : Int) : decide ((Sum.inr a : Key) = Sum.inl b) = false := decide_eq_false (fun q => nomatch q)
def mixKind (prog : Program) (w : World) : PySem.KeyKind prog w Key where
  is := keyIs
  hash := keyH w
  inj := fun v a b ha hb => by
    rcases keyIs_shape ha with ⟨i, t, rfl, rfl⟩ | ⟨x, t, rfl, rfl⟩
    · rcases keyIs_shape hb with ⟨j, u, rfl, e⟩ | ⟨y, u, rfl, e⟩
      · injection e with e1 _; rw [e1]
      · exact nomatch e
    · rcases keyIs_shape hb with ⟨j, u, rfl, e⟩ | ⟨y, u, rfl, e⟩
      · exact nomatch e
      · injection e with e1 _; rw [e1]
  byValue := fun k v h => by
    rcases keyIs_shape h with ⟨i, t, rfl, rfl⟩ | ⟨x, t, rfl, rfl⟩ <;> rfl
  pyHash := fun hv h => by
    rcases keyIs_shape hv with ⟨i, t, rfl, rfl⟩ | ⟨x, t, rfl, rfl⟩
    · exact wpAny_pyHash_int h
    · exact wpAny_pyHash_str h
  eqBool := fun hu hv h => by
    rcases keyIs_shape hu with ⟨i, t, rfl, rfl⟩ | ⟨x, t, rfl, rfl⟩
    · rcases keyIs_shape hv with ⟨j, u, rfl, rfl⟩ | ⟨y, u, rfl, rfl⟩
      · rw [key_ll] at h; exact wpAny_eqBool_int h
      · rw [key_lr] at h; exact SeqAt.EqAt.int_str i t y u _ _ _ _ h
    · rcases keyIs_shape hv with ⟨j, u, rfl, rfl⟩ | ⟨y, u, rfl, rfl⟩
      · rw [key_rl] at h; exact SeqAt.EqAt.str_int x t j u _ _ _ _ h
      · rw [key_rr] at h; exact wpAny_eqBool_str h
  «strs» := fun k x t v h => by
    rcases keyIs_shape h with ⟨i, u, rfl, e⟩ | ⟨y, u, rfl, e⟩
    · exact nomatch e
    · injection e with e1 _
      subst e1
      cases v <;> rfl
end L2
namespace L2
open PySem PySem.Spec PyProof.Rows
/-- a value, without the heap -/
inductive V where
  | non | bl (b : Bool) | int (i : Int) | str (x : Str) | byt (b : Array UInt8) | flt (b : UInt64) | ref (a : Addr) | ty (n : String)
  deriving DecidableEq
def RelV : V → Value → Prop
  | .non, u => u = Value.none
  | .bl b, u => u = Value.bool b
  | .int i, u => ∃ t, u = Value.int i t
  | .str x, u => ∃ t, u = Value.str x t
  | .byt b, u => ∃ t, u = Value.bytes b t
  | .flt b, u => ∃ t, u = Value.float b t
  | .ref a, u => u = Value.ref a
  | .ty n, u => u = Value.type n
abbrev Vals : List V → List Value → Prop := Paired RelV
theorem Vals.length {xs : List V} {us : List Value} (r : Vals xs us) : xs.length = us.length := Paired.length r
theorem Vals.get : ∀ {xs : List V} {us : List Value} {i : Nat} {x : V}, Vals xs us → xs[i]? = some x → ∃ u, us[i]? = some u ∧ RelV x u
  | _, _, _, _, .nil, e => by simp at e
  | _, _, 0, _, .cons r _, e => by simp at e; subst e; exact ⟨_, rfl, r⟩
  | _, _, i + 1, x, .cons _ t, e => by
    obtain ⟨u, h1, h2⟩ := Vals.get (i := i) (x := x) t (by simpa using e)
    exact ⟨u, by simpa using h1, h2⟩
theorem Vals.set {x : V} {u : Value} (r : RelV x u) : ∀ {xs : List V} {us : List Value} (i : Nat), Vals xs us → Vals (xs.set i x) (us.set i u)
  | _, _, _, .nil => .nil
  | _, _, 0, .cons _ t => .cons r t
  | _, _, i + 1, .cons q t => .cons q (Vals.set r i t)
theorem Vals.append : ∀ {xs ys : List V} {us ws : List Value}, Vals xs us → Vals ys ws → Vals (xs ++ ys) (us ++ ws)
  | _, _, _, _, .nil, s => s
  | _, _, _, _, .cons r t, s => .cons r (Vals.append t s)
theorem Vals.take : ∀ {xs : List V} {us : List Value} (n : Nat), Vals xs us → Vals (xs.take n) (us.take n)
  | _, _, 0, _ => .nil
  | _, _, _ + 1, .nil => .nil
  | _, _, n + 1, .cons r t => .cons r (Vals.take n t)
theorem Vals.drop : ∀ {xs : List V} {us : List Value} (n : Nat), Vals xs us → Vals (xs.drop n) (us.drop n)
  | _, _, 0, r => r
  | _, _, _ + 1, .nil => .nil
  | _, _, n + 1, .cons _ t => Vals.drop n t
def RelO : Option V → Option Value → Prop
  | some v, some u => RelV v u
  | none, none => True
  | _, _ => False
def KV {κ : Type} : List (κ × V) → List (κ × Value) → Prop := Paired fun (p : κ × V) (q : κ × Value) => p.1 = q.1 ∧ RelV p.2 q.2
/-- a key of a dict (00_mix): an int or a text -/
def kV : Key → V
  | .inl i => .int i
  | .inr x => .str x
/-- what stands at a tracked address -/
inductive HO where
  /-- a list -/
  | lst (xs : List V)
  /-- a tuple (never changes) -/
  | tup (xs : List V)
  /-- a dict whose keys are ints and texts; one whose keys are tuples of ints and texts (the empty one is both) -/
  | dK (kvs : List (Key × V)) | dT (kvs : List (List Key × V))
  /-- a set of ints: its members, its size -/
  | set (S : Int → Bool) (n : Nat)
  /-- an instance of the class at C, its dict at dx, its attributes -/
  | ins (C dx : Addr) (fs : List (Str × V))
  /-- the dict of the instance at x -/
  | own (x : Addr)
  /-- the dict of an exception -/
  | xd (fs : List (Str × V))
  /-- a bound method, f of x -/
  | met (f x : Addr)
  /-- a range object lo, lo + 1, .. below hi -/
  | rng (lo hi : Int)
  /-- a thing that is known to the object (the script; a dict while a loop walks it): read, never written while it is so -/
  | frz (o : Obj) (u : HO)
  /-- a code object's table -/
  | tbl (ps : Array Value)
  /-- any other thing, by what is true of its one object (a def of one's own: SetO a S n := HO.ext fun h => ..) -/
  | ext (φ : Heap → Prop)
abbrev Hp := Addr → Option HO
def upd (H : Hp) (a : Addr) (o : HO) : Hp := fun b => if b = a then some o else H b
theorem upd_same {H : Hp} {a : Addr} {o : HO} : upd H a o a = some o := by unfold upd; rw [if_pos rfl]
theorem upd_ne {H : Hp} {a b : Addr} {o : HO} (h : b ≠ a) : upd H a o b = H b := by unfold upd; rw [if_neg h]
/-- two objects of different content stand apart -/
theorem ne_of {H : Hp} {a b : Addr} {o u : HO} (h : H a = some o) (h' : H b = some u) (d : o ≠ u) : a ≠ b := by
  intro e; subst e; rw [h] at h'; exact d (Option.some.inj h')
theorem ne_of_none {H : Hp} {a b : Addr} {o : HO} (h : H a = some o) (h' : H b = none) : a ≠ b := by
  intro e; subst e; rw [h] at h'; cases h'
section
variable (P : Program) (w : World)
def ObjOk (H : Hp) (h : Heap) (a : Addr) : HO → Prop
  | .lst xs => xs.length ≤ sizeLine ∧ ∃ (its : List Value) (n : Nat), Vals xs its ∧ h.get? a = some { cls := .type "list", data := .seq its.toArray n }
  | .tup xs => (xs.length ≤ sizeLine ∧ ∃ o, h.get? a = some o ∧ o.dict = none) ∧ ∃ its : List Value, Vals xs its ∧ IsTup h a its.toArray
  | .dK kvs => kvs.length ≤ sizeLine ∧ (a == sysModules) = false ∧ ∃ vs, KV kvs vs ∧ h.DictOf (mixKind P w) a vs
  | .dT kvs => kvs.length ≤ sizeLine ∧ (a == sysModules) = false ∧ ∃ xs : List (List Key × Addr × Value),
      Paired (fun (p : List Key × V) (q : List Key × Addr × Value) => p.1 = q.1 ∧ H q.2.1 = some (.tup (p.1.map kV)) ∧ RelV p.2 q.2.2) kvs xs ∧
      ∃ o es ep, h.get? a = some o ∧ o.ExactDict ∧ o.data = .dict es ep ∧ es.toList = xs.map (entryOfKey (tupleKind (mixKind P w))) ∧ (xs.map (·.1)).Nodup
  | .set S n => h.SetOf (intKind P w) a S n
  | .ins C dx fs => H dx = some (.own a) ∧ fs.length ≤ 1000 ∧ dx ≠ a ∧ h.get? a = some (PySem.W.instObj C dx) ∧
      ∃ mA, h.Ns1 dx mA ∧ (∀ f, RelO (fs.lookup f) (mA f)) ∧ PySem.Within mA (fs.map (·.1))
  | .own _ => ∃ o, h.get? a = some o
  | .xd fs => ∃ mA, h.Ns1 a mA ∧ ∀ f, RelO (fs.lookup f) (mA f)
  | .rng lo hi => ∃ t u v, h.get? a = some { cls := .type "range", data := .fields #[.int lo t, .int hi u, .int 1 v] }
  | .frz o u => h.get? a = some o ∧ ObjOk H h a u
  | .tbl ps => h.get? a = some { cls := .none, data := .fields ps }
  | .met f x => h.get? a = some (PySem.W.methodObj (.ref f) (.ref x))
  | .ext φ => φ h ∧ (∃ o, h.get? a = some o) ∧ ∀ h1 h2 : Heap, φ h1 → (∀ o, h1.get? a = some o → h2.get? a = some o) → φ h2
/-- the abstract heap is held -/
def HOk (H : Hp) (h : Heap) : Prop := ∀ a o, H a = some o → ObjOk P w H h a o
end
section
variable {P : Program} {w : World} {H H' : Hp} {h h' : Heap} {a : Addr} {o : HO}
theorem ObjOk.lt (x : ObjOk P w H h a o) : a < h.objs.size := by
  cases o with
  | lst xs => obtain ⟨_, _, _, _, e⟩ := x; exact Heap.lt_size e
  | tup xs => obtain ⟨_, _, _, p⟩ := x; exact p.lt
  | dK kvs => obtain ⟨_, _, _, _, o, _, _, e, _⟩ := x; exact Heap.lt_size e
  | dT kvs => obtain ⟨_, _, _, _, o, _, _, e, _⟩ := x; exact Heap.lt_size e
  | set S n => obtain ⟨o, _, _, _, e, _⟩ := x; exact Heap.lt_size e
  | ins C dx fs => obtain ⟨_, _, _, e, _⟩ := x; exact Heap.lt_size e
  | own y => obtain ⟨_, e⟩ := x; exact Heap.lt_size e
  | xd fs => obtain ⟨_, ⟨_, _, _, e, _⟩, _⟩ := x; exact Heap.lt_size e
  | rng lo hi => obtain ⟨_, _, _, e⟩ := x; exact Heap.lt_size e
  | frz ob u => obtain ⟨e, _⟩ := x; exact Heap.lt_size e
  | tbl ps => exact Heap.lt_size (show h.get? a = some _ from x)
  | met f y => exact Heap.lt_size (show h.get? a = some _ from x)
  | ext φ => obtain ⟨_, ⟨_, e⟩, _⟩ := x; exact Heap.lt_size e
theorem Paired.mapP {α β : Type} {F G : α → β → Prop} : ∀ {l₁ : List α} {l₂ : List β}, Paired F l₁ l₂ → (∀ a b, F a b → G a b) → Paired G l₁ l₂
  | _, _, .nil, _ => .nil
  | _, _, .cons r t, f => .cons (f _ _ r) (Paired.mapP t f)
/-- what an object's description leans on: its own object, its own dict, the tuples -/
theorem ObjOk.stay (x : ObjOk P w H h a o) (k : ∀ b u, (b = a ∨ H b = some (.own a)) → h.get? b = some u → h'.get? b = some u)
    (ho : ∀ b, H b = some (.own a) → H' b = some (.own a)) (ht : ∀ b xs, H b = some (.tup xs) → H' b = some (.tup xs)) : ObjOk P w H' h' a o := by
  induction o with
  | lst xs => obtain ⟨z, its, n, r, e⟩ := x; exact ⟨z, its, n, r, k _ _ (.inl rfl) e⟩
  | tup xs => obtain ⟨⟨z, on, en, dn⟩, its, r, ob, e, c⟩ := x; exact ⟨⟨z, on, k _ _ (.inl rfl) en, dn⟩, its, r, ob, k _ _ (.inl rfl) e, c⟩
  | dK kvs => obtain ⟨z, y, vs, r, ob, es, ep, e, c⟩ := x; exact ⟨z, y, vs, r, ob, es, ep, k _ _ (.inl rfl) e, c⟩
  | dT kvs =>
    obtain ⟨z, y, xs, r, ob, es, ep, e, c⟩ := x
    exact ⟨z, y, xs, Paired.mapP r fun p q z => ⟨z.1, ht _ _ z.2.1, z.2.2⟩, ob, es, ep, k _ _ (.inl rfl) e, c⟩
  | set S n => obtain ⟨ob, es, ep, t, e, c⟩ := x; exact ⟨ob, es, ep, t, k _ _ (.inl rfl) e, c⟩
  | ins C dx fs =>
    obtain ⟨d, z, ne, e, mA, ⟨od, es, ep, e2, c⟩, r⟩ := x
    exact ⟨ho _ d, z, ne, k _ _ (.inl rfl) e, mA, ⟨od, es, ep, k _ _ (.inr d) e2, c⟩, r⟩
  | own y => obtain ⟨ob, e⟩ := x; exact ⟨ob, k _ _ (.inl rfl) e⟩
  | xd fs => obtain ⟨mA, ⟨od, es, ep, e, c⟩, r⟩ := x; exact ⟨mA, ⟨od, es, ep, k _ _ (.inl rfl) e, c⟩, r⟩
  | rng lo hi => obtain ⟨t, u, v, e⟩ := x; exact ⟨t, u, v, k _ _ (.inl rfl) e⟩
  | frz ob u ih => obtain ⟨e, q⟩ := x; exact ⟨k _ _ (.inl rfl) e, ih q⟩
  | tbl ps =>
    have e : h.get? a = some { cls := .none, data := .fields ps } := x
    show h'.get? a = some { cls := .none, data := .fields ps }
    exact k a _ (.inl rfl) e
  | met f y =>
    have e : h.get? a = some (PySem.W.methodObj (.ref f) (.ref y)) := x
    show h'.get? a = some (PySem.W.methodObj (.ref f) (.ref y))
    exact k a _ (.inl rfl) e
  | ext φ => obtain ⟨p, ⟨o, e⟩, st⟩ := x; exact ⟨st _ _ p fun o q => k _ _ (.inl rfl) q, ⟨o, k _ _ (.inl rfl) e⟩, st⟩
theorem HOk.lt (x : HOk P w H h) (e : H a = some o) : a < h.objs.size := (x a o e).lt
theorem HOk.fresh (x : HOk P w H h) (e : h.objs.size ≤ a) : H a = none := by
  cases q : H a with
  | none => rfl
  | some u => exact absurd (Nat.lt_of_lt_of_le (x.lt q) e) (Nat.lt_irrefl _)
/-- every object of the heap is kept -/
theorem HOk.kept (x : HOk P w H h) (k : ∀ b u, h.get? b = some u → h'.get? b = some u) : HOk P w H h' := fun a o e =>
  (x a o e).stay (fun b u _ q => k b u q) (fun _ q => q) fun _ _ q => q
/-- a new object is laid and tracked -/
theorem HOk.laid (x : HOk P w H h) (k : ∀ b u, h.get? b = some u → h'.get? b = some u) (hp : h.objs.size ≤ a) (new : ObjOk P w (upd H a o) h' a o) : HOk P w (upd H a o) h' := fun b u e => by
  have hn := x.fresh hp
  by_cases hb : b = a
  · subst hb; rw [upd_same] at e; cases e; exact new
  · rw [upd_ne hb] at e
    exact (x b u e).stay (fun c v _ q => k c v q) (fun c q => by rw [upd_ne (ne_of_none q hn)]; exact q) fun c xs q => by rw [upd_ne (ne_of_none q hn)]; exact q
end
/-- what may be read as u: it is u, or a known u -/
def Rd (H : Hp) (a : Addr) (u : HO) : Prop := H a = some u ∨ ∃ o, H a = some (.frz o u)
theorem Rd.ok {P : Program} {w : World} {H : Hp} {h : Heap} {a : Addr} {u : HO} (r : Rd H a u) (x : HOk P w H h) : ObjOk P w H h a u := by
  rcases r with r | ⟨o, r⟩
  · exact x a u r
  · obtain ⟨_, q⟩ := x a _ r
    exact q
/-- what may be written -/
def Mut : Option HO → Prop
  | some (.lst _) => True
  | some (.dK _) => True
  | some (.dT _) => True
  | some (.set _ _) => True
  | some (.ins _ _ _) => True
  | some (.ext _) => True
  | _ => False
section
variable {P : Program} {w : World} {H : Hp} {h h' : Heap} {x e : Addr} {o' : HO}
/-- the object at e is changed: x itself, or the dict of the instance x -/
theorem HOk.write (ok : HOk P w H h) (mu : Mut (H x)) (he : e = x ∨ H e = some (.own x)) (k : ∀ b u, b ≠ e → h.get? b = some u → h'.get? b = some u) (heo : ∃ u, h'.get? e = some u)
    (new : ObjOk P w (upd H x o') h' x o') : HOk P w (upd H x o') h' := fun b u q => by
  have nown : ∀ c y, H c = some (.own y) → c ≠ x := fun c y r z => by subst z; rw [r] at mu; exact mu
  have ntup : ∀ c xs, H c = some (.tup xs) → c ≠ x := fun c xs r z => by subst z; rw [r] at mu; exact mu
  by_cases hb : b = x
  · subst hb; rw [upd_same] at q; cases q; exact new
  · rw [upd_ne hb] at q
    by_cases hbe : b = e
    · have q' : H b = some (.own x) := by
        rcases he with z | z
        · exact absurd (hbe.trans z) hb
        · rw [hbe]; exact z
      rw [q] at q'; cases q'
      obtain ⟨v, hv⟩ := heo
      exact ⟨v, by rw [hbe]; exact hv⟩
    · refine (ok b u q).stay (fun c v hc r => k c v ?_ r) (fun c r => by rw [upd_ne (nown c b r)]; exact r) fun c xs r => by rw [upd_ne (ntup c xs r)]; exact r
      rcases hc with rfl | hc
      · exact hbe
      · rintro rfl
        rcases he with z | z
        · exact nown c b hc z
        · rw [hc] at z; cases z; exact hb rfl
end
/-! ### kept unless tracked; of the frames at fs (the callers') the slots may change (an exception that passes writes there); of the records at ex (iterators) nothing is said -/
structure Un (fs ex : List Addr) (H H' : Hp) (h h' : Heap) : Prop where
  keep : ∀ b o, h.get? b = some o → H b = none → b ∉ fs → b ∉ ex → h'.get? b = some o
  slot : ∀ b o, h.get? b = some o → H b = none → b ∈ fs → b ∉ ex → ∃ sl, h'.get? b = some { o with slots := sl }
  free : ∀ b o, h.get? b = some o → H b = none → b ∉ ex → H' b = none
  there : ∀ b o, h.get? b = some o → b ∉ ex → ∃ o', h'.get? b = some o'
  tups : ∀ b xs, H b = some (.tup xs) → H' b = some (.tup xs)
  frzs : ∀ b o u, H b = some (.frz o u) → H' b = some (.frz o u)
  tbls : ∀ b ps, H b = some (.tbl ps) → ∃ more, H' b = some (.tbl (ps ++ more))
section
variable {fs fs' ex ex' : List Addr} {H H1 H2 : Hp} {h h1 h2 h' : Heap} {a x e : Addr} {o : HO}
theorem Un.any (u : Un fs ex H H1 h h1) {b : Addr} {ob : Obj} (q : h.get? b = some ob) (n : H b = none) (hx : b ∉ ex) : ∃ sl, h1.get? b = some { ob with slots := sl } := by
  by_cases hb : b ∈ fs
  · exact u.slot b ob q n hb hx
  · exact ⟨ob.slots, u.keep b ob q n hb hx⟩
theorem Un.kept (k : ∀ b u, h.get? b = some u → h'.get? b = some u) : Un fs ex H H h h' :=
  ⟨fun b ob q _ _ _ => k b ob q, fun b ob q _ _ _ => ⟨ob.slots, k b ob q⟩, fun _ _ _ n _ => n, fun b ob q _ => ⟨ob, k b ob q⟩, fun _ _ q => q, fun _ _ _ q => q, fun _ ps q => ⟨#[], by rw [q]; simp⟩⟩
theorem Un.refl : Un fs ex H H h h := Un.kept fun _ _ q => q
theorem Un.laid (k : ∀ b u, h.get? b = some u → h'.get? b = some u) (hp : h.objs.size ≤ a) (hn : H a = none) : Un fs ex H (upd H a o) h h' where
  keep := fun b u q _ _ _ => k b u q
  slot := fun b u q _ _ _ => ⟨u.slots, k b u q⟩
  free := fun b u q n _ => by rw [upd_ne (Nat.ne_of_lt (Nat.lt_of_lt_of_le (Heap.lt_size q) hp))]; exact n
  there := fun b u q _ => ⟨u, k b u q⟩
  tups := fun b xs q => by rw [upd_ne (ne_of_none q hn)]; exact q
  frzs := fun b u xs q => by rw [upd_ne (ne_of_none q hn)]; exact q
  tbls := fun b ps q => ⟨#[], by rw [upd_ne (ne_of_none q hn), q]; simp⟩
theorem Un.write (mu : Mut (H x)) (he : e = x ∨ H e = some (.own x)) (k : ∀ b u, b ≠ e → h.get? b = some u → h'.get? b = some u) (heo : ∃ u, h'.get? e = some u) : Un fs ex H (upd H x o) h h' := by
  have hx : ∀ b, H b = none → b ≠ x := fun b n z => by subst z; rw [n] at mu; exact mu
  have hb : ∀ b, H b = none → b ≠ e := fun b n z => by
    subst z
    rcases he with r | r
    · exact hx b n r
    · rw [n] at r; cases r
  have hm : ∀ b u, H b = some u → ¬ Mut (some u) → b ≠ x := fun b u q nm z => by subst z; rw [q] at mu; exact nm mu
  refine ⟨fun b u q n _ _ => k b u (hb b n) q, fun b u q n _ _ => ⟨u.slots, k b u (hb b n) q⟩, fun b u q n _ => by rw [upd_ne (hx b n)]; exact n, fun b u q _ => ?_,
    fun b xs q => by rw [upd_ne (hm b _ q fun z => z)]; exact q, fun b u xs q => by rw [upd_ne (hm b _ q fun z => z)]; exact q, fun b ps q => ⟨#[], by rw [upd_ne (hm b _ q fun z => z), q]; simp⟩⟩
  by_cases hbe : b = e
  · subst hbe; exact heo
  · exact ⟨u, k b u hbe q⟩
end
/-! ### the heap without what is tracked -/
def trk (h : Heap) (H : Hp) : List Addr := (List.range h.objs.size).filter fun a => (H a).isSome
def hidT (h : Heap) (H : Hp) : Heap := PySem.W.hideAll h (trk h H)
theorem hidT_size (h : Heap) (H : Hp) : (hidT h H).objs.size = h.objs.size := PySem.W.hideAll_size _ _
theorem hidT_get {h : Heap} {H : Hp} {b : Addr} {o : Obj} (e : h.get? b = some o) (n : H b = none) : (hidT h H).get? b = some o :=
  PySem.W.hideAll_get _ e fun hm => by
    have q : (H b).isSome = true := (List.mem_filter.mp hm).2
    rw [n] at q; simp at q
theorem of_hidT {h : Heap} {H : Hp} {b : Addr} {o : Obj} (e : (hidT h H).get? b = some o) : h.get? b = some o ∧ H b = none := by
  have e' : h.get? b = some o := PySem.W.of_hideAll (trk h H) e
  refine ⟨e', ?_⟩
  cases q : H b with
  | none => rfl
  | some x =>
    have hm : b ∈ trk h H := List.mem_filter.mpr ⟨List.mem_range.mpr (Heap.lt_size e'), by simp [q]⟩
    have z : (hidT h H).get? b = none := PySem.W.hideAll_none (trk h H) hm
    rw [z] at e; cases e
end L2
namespace L2
open PySem PySem.Spec PyProof.Rows
/-- the module's facts, over the base: the heap at the law's entry without what is tracked there -/
structure Mod (K : PySem.W.Frag) (mg : Str → Option Value) (base : Heap) : Prop where
  kin : K.In base
  glob : base.Ns mainGlobals mg
  blt : ∃ mb, base.Ns builtinsNs mb ∧ ∀ x : Str, x ≠ "__name__" → mb x = bootBuiltins x
  nolimit : base.NoLimit
/-- the context: a def's body (or a comprehension's block) running. base: fixed through the whole law; s₀, H₀: the entry; outer: the frames whose slots others may change (a def's callers); stack: all frames that run;
   ex: iterators that were made ahead of the entry and are walked here (a comprehension's); fn: the names whose cells were made at the entry (a def: all; a comprehension's block: its own); calm: not within an except suite; pn: pins that every state bears; xe: what is wanted of an exception that leaves the code -/
structure Cx where
  prog : Program
  w : World
  K : PySem.W.Frag
  mg : Str → Option Value
  base : Heap
  A : Around
  N : List Str
  s₀ : Shared
  H₀ : Hp
  env : Env
  outer : List Env
  stack : List Env
  ex : List Addr
  fn : Str → Bool
  calm : Bool
  pn : List (Addr × Obj)
  xe : Value → Shared → Prop
/-- the callers' frames -/
def frs (l : List Env) : List Addr := l.filterMap (·.frame)
abbrev Cx.fs (X : Cx) : List Addr := frs X.outer
def Vis (sc : Scope) (x : Str) : Prop := sc.names.lookup x = some .local ∨ sc.names.lookup x = some .cell ∨ sc.names.lookup x = some .free
def Loc (sc : Scope) (x : Str) : Prop := sc.names.lookup x = some .local ∨ sc.names.lookup x = some .cell
def Look (env : Env) (h : Heap) (m : Str → Option Value) (x : Str) (u : Value) : Prop :=
  (env.kindOf x = some .local ∧ m x = some u) ∨ ((env.kindOf x = some .cell ∨ env.kindOf x = some .free) ∧ ∃ c, env.cells.lookup x = some c ∧ h.IsCell c (some u))
structure Cx.Ok (X : Cx) : Prop where
  mod : Mod X.K X.mg X.base
  kind : X.env.scope.kind = .function
  glob : X.env.globals = mainGlobals
  blt : X.env.builtins = builtinsNs
  above : X.s₀.heap.objs.size ≤ X.env.locals
  inj : ∀ x y c, X.env.cells.lookup x = some c → X.env.cells.lookup y = some c → x = y
  has : ∀ x, (X.env.kindOf x = some .cell ∨ X.env.kindOf x = some .free) → ∃ c, X.env.cells.lookup x = some c
  cab : ∀ x c, X.fn x = true → X.env.cells.lookup x = some c → X.s₀.heap.objs.size ≤ c
  hd : X.calm = true → X.A.handled = none
  frames : X.A.frames = some X.stack
  stk : X.stack = X.outer ∨ (X.stack = X.env :: X.outer ∧ X.env.frame = some X.env.locals)
  exf : ∀ b ∈ X.ex, b ≠ X.env.locals ∧ ∀ x c, X.env.cells.lookup x = some c → c ≠ b
  bs : ∀ b o, X.base.get? b = some o → X.s₀.heap.get? b = some o ∧ X.H₀ b = none
  bsz : X.base.objs.size ≤ X.s₀.heap.objs.size
  noex : ∀ b o, X.base.get? b = some o → b ∉ X.ex
  exfs : ∀ b ∈ X.ex, b ∉ X.fs
  funs : X.s₀.heap.FunFrames X.base X.outer
  frf : ∀ b ∈ X.fs, X.H₀ b = none
structure Inv (X : Cx) (pins : List (Addr × Obj)) (σ : List (Option V)) (H : Hp) (s : Shared) : Prop where
  ok : X.Ok
  os : s.os = X.s₀.os
  bare : AllBare s.gens
  base : Un X.fs X.ex X.H₀ H X.s₀.heap s.heap
  loc : ∃ m, s.heap.Ns X.env.locals m ∧ ∀ (i : Nat) (x : Str) (v : V), X.N[i]? = some x → σ[i]? = some (some v) → Vis X.env.scope x → ∃ u, RelV v u ∧ Look X.env s.heap m x u
  cell : ∀ x c, X.env.cells.lookup x = some c → ∃ v, s.heap.IsCell c v
  free : H X.env.locals = none
  freeC : ∀ x c, X.env.cells.lookup x = some c → H c = none
  pin : ∀ p ∈ X.pn ++ pins, s.heap.get? p.1 = some p.2 ∧ H p.1 = none ∧ p.1 ≠ X.env.locals ∧ p.1 ∉ X.fs ∧ ∀ v, p.2.data ≠ .cell v
  hok : HOk X.prog X.w H s.heap
  len : σ.length = X.N.length
section
variable {X : Cx} {pins : List (Addr × Obj)} {σ : List (Option V)} {H H' : Hp} {s : Shared} {h' : Heap}
theorem Cx.Ok.nofr (ok : X.Ok) {b : Addr} {o : Obj} (e : X.base.get? b = some o) : b ∉ X.fs := fun hb => by
  have := (ok.funs.mem hb).1
  rw [e] at this; cases this
theorem Inv.bs (I : Inv X pins σ H s) : ∀ b o, X.base.get? b = some o → s.heap.get? b = some o ∧ H b = none := fun b o e =>
  ⟨I.base.keep b o (I.ok.bs b o e).1 (I.ok.bs b o e).2 (I.ok.nofr e) (I.ok.noex b o e), I.base.free b o (I.ok.bs b o e).1 (I.ok.bs b o e).2 (I.ok.noex b o e)⟩
theorem Inv.bk (I : Inv X pins σ H s) : ∀ b o, X.base.get? b = some o → s.heap.get? b = some o := fun b o e => (I.bs b o e).1
theorem Inv.mod (I : Inv X pins σ H s) : Mod X.K X.mg X.base := I.ok.mod
theorem Inv.kIn (I : Inv X pins σ H s) : X.K.In s.heap := I.ok.mod.kin.keeps I.bk
theorem Inv.lt (I : Inv X pins σ H s) : X.env.locals < s.heap.objs.size := let ⟨_, hn, _⟩ := I.loc; hn.lt
theorem Inv.sz (I : Inv X pins σ H s) : X.s₀.heap.objs.size ≤ s.heap.objs.size := Nat.le_trans I.ok.above (Nat.le_of_lt I.lt)
theorem Inv.nofs (I : Inv X pins σ H s) {a : Addr} (h : s.heap.objs.size ≤ a) : a ∉ X.fs := fun hb => by
  obtain ⟨_, o, ho, _⟩ := I.ok.funs.mem hb
  exact absurd (Nat.lt_of_lt_of_le (Heap.lt_size ho) (Nat.le_trans I.sz h)) (Nat.lt_irrefl _)
theorem Inv.cne (I : Inv X pins σ H s) : ∀ x c, X.env.cells.lookup x = some c → c ≠ X.env.locals := fun x c e z => by
  obtain ⟨v, o, ho, hd⟩ := I.cell x c e
  obtain ⟨m, ⟨o', es, ep, ho', hd', _⟩, _⟩ := I.loc
  rw [z, ho'] at ho; cases ho; rw [hd'] at hd; cases hd
theorem Inv.funs (I : Inv X pins σ H s) : s.heap.FunFrames X.base X.outer := by
  have all : ∀ (l : List Env), (∀ b ∈ frs l, b ∈ X.fs) → X.s₀.heap.FunFrames X.base l → s.heap.FunFrames X.base l := by
    intro l
    induction l with
    | nil => intro _ _; trivial
    | cons env r ih =>
      intro hs hl
      obtain ⟨hk, ⟨L, o, hf, hn, ho, hd⟩, hr⟩ := hl
      have hL : L ∈ X.fs := hs L (by unfold frs; rw [List.filterMap_cons, hf]; exact List.mem_cons_self)
      obtain ⟨sl, e⟩ := I.base.slot L o ho (I.ok.frf L hL) hL fun z => I.ok.exfs L z hL
      exact ⟨hk, ⟨L, _, hf, hn, e, hd⟩, ih (fun b hb => hs b (by unfold frs; rw [List.filterMap_cons, hf]; exact List.mem_cons_of_mem _ hb)) hr⟩
  exact all X.outer (fun _ hb => hb) I.ok.funs
/-- the frames that run, for a call -/
theorem Inv.stack (I : Inv X pins σ H s) : s.heap.FunFrames X.base X.stack := by
  rcases I.ok.stk with e | ⟨e, hf⟩
  · rw [e]; exact I.funs
  · rw [e]
    obtain ⟨m, hn, _⟩ := I.loc
    refine .cons (by rw [I.ok.kind]; decide) hf hn ?_ I.funs
    exact Heap.get?_none_of_le (Nat.le_trans I.ok.bsz I.ok.above)
theorem Inv.stkSub (I : Inv X pins σ H s) : ∀ b ∈ frs X.stack, b ∈ X.env.locals :: X.fs := fun b hb => by
  rcases I.ok.stk with e | ⟨e, hf⟩
  · rw [e] at hb; exact List.mem_cons_of_mem _ hb
  · rw [e] at hb
    unfold frs at hb
    rw [List.filterMap_cons, hf] at hb
    exact hb
theorem Inv.stkFree (I : Inv X pins σ H s) : ∀ b ∈ frs X.stack, H b = none := fun b hb => by
  rcases List.mem_cons.mp (I.stkSub b hb) with e | hb
  · rw [e]; exact I.free
  · obtain ⟨_, o, ho, _⟩ := I.ok.funs.mem hb
    exact I.base.free b o ho (I.ok.frf b hb) fun z => I.ok.exfs b z hb
/-- THE STEP: the untracked objects but the frame and the records at ch are kept (the callers' frames up to slots), the frame's map is kept, the new abstract heap is held -/
theorem Inv.step {g' : Array GenState} {t' : Nat} {d' : Drawn} {ch : List Addr} (I : Inv X pins σ H s)
    (hch : ∀ b ∈ ch, (b ∈ X.ex ∨ X.s₀.heap.objs.size ≤ b) ∧ b ≠ X.env.locals ∧ (∀ x c, X.env.cells.lookup x = some c → c ≠ b) ∧ ∀ p ∈ X.pn ++ pins, p.1 ≠ b)
    (keep : ∀ b o, b ≠ X.env.locals → b ∉ X.fs → b ∉ ch → s.heap.get? b = some o → H b = none → h'.get? b = some o)
    (slot : ∀ b o, b ≠ X.env.locals → b ∈ X.fs → b ∉ ch → s.heap.get? b = some o → H b = none → ∃ sl, h'.get? b = some { o with slots := sl }) (free : ∀ b o, b ∉ ch → s.heap.get? b = some o → H b = none → H' b = none)
    (there : ∀ b o, b ∉ ch → s.heap.get? b = some o → ∃ o', h'.get? b = some o')
    (tups : ∀ b xs, H b = some (.tup xs) → H' b = some (.tup xs)) (frzs : ∀ b o u, H b = some (.frz o u) → H' b = some (.frz o u)) (tbls : ∀ b ps, H b = some (.tbl ps) → ∃ more, H' b = some (.tbl (ps ++ more)))
    (ns : ∀ m, s.heap.Ns X.env.locals m → h'.Ns X.env.locals m) (hok : HOk X.prog X.w H' h') (hg : AllBare g') :
    Inv X pins σ H' { s with heap := h', gens := g', drawn := d', toks := t' } := by
  have neL : ∀ b o, X.s₀.heap.get? b = some o → b ≠ X.env.locals := fun b o e => Nat.ne_of_lt (Nat.lt_of_lt_of_le (Heap.lt_size e) I.ok.above)
  have neC : ∀ b o, X.s₀.heap.get? b = some o → b ∉ X.ex → b ∉ ch := fun b o e hx hb => by
    rcases (hch b hb).1 with z | z
    · exact hx z
    · exact absurd (Nat.lt_of_lt_of_le (Heap.lt_size e) z) (Nat.lt_irrefl _)
  have cellK : ∀ x c, X.env.cells.lookup x = some c → ∀ v, s.heap.IsCell c v → h'.IsCell c v := fun x c e v ⟨o, ho, hd⟩ => by
    have nch : c ∉ ch := fun z => (hch c z).2.2.1 x c e rfl
    by_cases hc : c ∈ X.fs
    · obtain ⟨sl, q⟩ := slot c o (I.cne x c e) hc nch ho (I.freeC x c e)
      exact ⟨_, q, hd⟩
    · exact ⟨o, keep c o (I.cne x c e) hc nch ho (I.freeC x c e), hd⟩
  refine ⟨I.ok, I.os, hg, ⟨fun b o e n hb hx => ?_, fun b o e n hb hx => ?_, fun b o e n hx => ?_, fun b o e hx => ?_, fun b xs e => tups b xs (I.base.tups b xs e), fun b o xs e => frzs b o xs (I.base.frzs b o xs e), fun b ps e => ?_⟩, ?_, fun x c e => ?_, ?_, fun x c e => ?_, fun p hp => ?_, hok, I.len⟩
  · exact keep b o (neL b o e) hb (neC b o e hx) (I.base.keep b o e n hb hx) (I.base.free b o e n hx)
  · obtain ⟨sl, e1⟩ := I.base.slot b o e n hb hx
    obtain ⟨sl', e2⟩ := slot b _ (neL b o e) hb (neC b o e hx) e1 (I.base.free b o e n hx)
    exact ⟨sl', e2⟩
  · obtain ⟨o', e1⟩ := I.base.there b o e hx
    exact free b o' (neC b o e hx) e1 (I.base.free b o e n hx)
  · obtain ⟨o', e1⟩ := I.base.there b o e hx
    exact there b o' (neC b o e hx) e1
  · obtain ⟨m1, e1⟩ := I.base.tbls b ps e
    obtain ⟨m2, e2⟩ := tbls b _ e1
    exact ⟨m1 ++ m2, by rw [e2, Array.append_assoc]⟩
  · obtain ⟨m, hn, hl⟩ := I.loc
    refine ⟨m, ns m hn, fun i x v e1 e2 e3 => ?_⟩
    obtain ⟨u, r, l⟩ := hl i x v e1 e2 e3
    refine ⟨u, r, ?_⟩
    rcases l with l | ⟨k, c, e, z⟩
    · exact .inl l
    · exact .inr ⟨k, c, e, cellK x c e _ z⟩
  · obtain ⟨v, z⟩ := I.cell x c e
    exact ⟨v, cellK x c e v z⟩
  · obtain ⟨m, ⟨o, _, _, ho, _⟩, _⟩ := I.loc
    exact free _ o (fun z => (hch _ z).2.1 rfl) ho I.free
  · obtain ⟨v, o, ho, hd⟩ := I.cell x c e
    exact free c o (fun z => (hch c z).2.2.1 x c e rfl) ho (I.freeC x c e)
  · obtain ⟨e, n, ne, nf, d⟩ := I.pin p hp
    have nch : p.1 ∉ ch := fun z => (hch p.1 z).2.2.2 p hp rfl
    exact ⟨keep p.1 p.2 ne nf nch e n, free p.1 p.2 nch e n, ne, nf, d⟩
/-- .. where the frame's own object is kept too -/
theorem Inv.un {t' : Nat} (I : Inv X pins σ H s) (u : Un X.fs [] H H' s.heap h') (hok : HOk X.prog X.w H' h') : Inv X pins σ H' { s with heap := h', toks := t' } := by
  obtain ⟨m, ⟨o, es, ep, ho, r⟩, _⟩ := id I.loc
  obtain ⟨sl, hL⟩ := u.any ho I.free (by simp)
  exact I.step (g' := s.gens) (d' := s.drawn) (ch := []) (fun _ z => nomatch z) (fun b o _ hb _ e n => u.keep b o e n hb (by simp)) (fun b o _ hb _ e n => u.slot b o e n hb (by simp)) (fun b o _ e n => u.free b o e n (by simp)) (fun b o _ e => u.there b o e (by simp)) u.tups u.frzs u.tbls (fun m' hm => by
    obtain ⟨o', es', ep', ho', r'⟩ := hm
    rw [ho] at ho'; cases ho'
    exact ⟨_, es', ep', hL, r'⟩) hok I.bare
/-- behind a call (or a comprehension's block): the slots of this frame may have changed too, the records at ch may have turned -/
theorem Inv.call {g' : Array GenState} {t' : Nat} {d' : Drawn} {ch : List Addr} (I : Inv X pins σ H s) (u : Un (frs X.stack) ch H H' s.heap h') (hok : HOk X.prog X.w H' h') (hg : AllBare g')
    (hch : ∀ b ∈ ch, (b ∈ X.ex ∨ X.s₀.heap.objs.size ≤ b) ∧ b ≠ X.env.locals ∧ (∀ x c, X.env.cells.lookup x = some c → c ≠ b) ∧ ∀ p ∈ X.pn ++ pins, p.1 ≠ b) :
    Inv X pins σ H' { s with heap := h', gens := g', drawn := d', toks := t' } := by
  obtain ⟨m, ⟨o, es, ep, ho, r⟩, _⟩ := id I.loc
  obtain ⟨sl, hL⟩ := u.any ho I.free fun z => (hch _ z).2.1 rfl
  exact I.step (ch := ch) hch (fun b o hL hb hc e n => u.keep b o e n (fun z => (List.mem_cons.mp (I.stkSub b z)).elim hL hb) hc) (fun b o _ _ hc e n => u.any e n hc) (fun b o hc e n => u.free b o e n hc) (fun b o hc e => u.there b o e hc) u.tups u.frzs u.tbls (fun m' hm => by
    obtain ⟨o', es', ep', ho', r'⟩ := hm
    rw [ho] at ho'; cases ho'
    exact ⟨_, es', ep', hL, r'⟩) hok hg
/-- an untracked record of ours (an iterator) has turned -/
theorem Inv.turned {t' : Nat} {it : Addr} (I : Inv X pins σ H s) (k : ∀ b o, b ≠ it → s.heap.get? b = some o → h'.get? b = some o) (hn : H it = none) (hL : it ≠ X.env.locals)
    (h1 : it ∈ X.ex ∨ X.s₀.heap.objs.size ≤ it) (h2 : ∀ x c, X.env.cells.lookup x = some c → c ≠ it) (h3 : ∀ p ∈ X.pn ++ pins, p.1 ≠ it) : Inv X pins σ H { s with heap := h', toks := t' } := by
  have nit : ∀ b u, H b = some u → b ≠ it := fun b u e z => by rw [z, hn] at e; cases e
  refine I.step (g' := s.gens) (d' := s.drawn) (ch := [it]) (fun b hb => ?_) (fun b o _ _ hc e _ => k b o (fun z => hc (by simp [z])) e) (fun b o _ _ hc e _ => ⟨o.slots, k b o (fun z => hc (by simp [z])) e⟩) (fun _ _ _ _ n => n)
    (fun b o hc e => ⟨o, k b o (fun z => hc (by simp [z])) e⟩) (fun _ _ e => e) (fun _ _ _ e => e) (fun b ps e => ⟨#[], by rw [e]; simp⟩) (fun m hm => ?_) (fun b u e => ?_) I.bare
  · have e : b = it := by simpa using hb
    subst e
    exact ⟨h1, hL, h2, h3⟩
  · obtain ⟨o, es, ep, ho, r⟩ := hm
    exact ⟨o, es, ep, k _ o (Ne.symm hL) ho, r⟩
  · refine (I.hok b u e).stay (fun c v hc q => k c v ?_ q) (fun _ q => q) fun _ _ q => q
    rcases hc with z | z
    · rw [z]; exact nit b u e
    · exact nit c _ z
theorem Inv.tok (I : Inv X pins σ H s) (t : Nat) : Inv X pins σ H { s with toks := t } := I.un (h' := s.heap) (t' := t) Un.refl I.hok
/-- all objects kept -/
theorem Inv.kept {t' : Nat} (I : Inv X pins σ H s) (k : ∀ b u, s.heap.get? b = some u → h'.get? b = some u) : Inv X pins σ H { s with heap := h', toks := t' } := I.un (Un.kept k) (I.hok.kept k)
/-- a new object laid and tracked -/
theorem Inv.laid {a : Addr} {o : HO} {t' : Nat} (I : Inv X pins σ H s) (k : ∀ b u, s.heap.get? b = some u → h'.get? b = some u) (hp : s.heap.objs.size ≤ a) (new : ObjOk X.prog X.w (upd H a o) h' a o) :
    Inv X pins σ (upd H a o) { s with heap := h', toks := t' } := I.un (Un.laid k hp (I.hok.fresh hp)) (I.hok.laid k hp new)
/-- an object written -/
theorem Inv.write {x e : Addr} {o : HO} {t' : Nat} (I : Inv X pins σ H s) (mu : Mut (H x)) (he : e = x ∨ H e = some (.own x)) (k : ∀ b u, b ≠ e → s.heap.get? b = some u → h'.get? b = some u) (heo : ∃ u, h'.get? e = some u)
    (new : ObjOk X.prog X.w (upd H x o) h' x o) : Inv X pins σ (upd H x o) { s with heap := h', toks := t' } := I.un (Un.write mu he k heo) (I.hok.write mu he k heo new)
theorem Inv.pins_of {pins' : List (Addr × Obj)} (I : Inv X pins σ H s) (h : ∀ p ∈ pins', s.heap.get? p.1 = some p.2 ∧ H p.1 = none ∧ p.1 ≠ X.env.locals ∧ p.1 ∉ X.fs ∧ ∀ v, p.2.data ≠ .cell v) : Inv X pins' σ H s :=
  ⟨I.ok, I.os, I.bare, I.base, I.loc, I.cell, I.free, I.freeC, fun p hp => (List.mem_append.mp hp).elim (fun z => I.pin p (List.mem_append_left _ z)) (h p), I.hok, I.len⟩
theorem nodup_ix {N : List Str} (hN : N.Nodup) {i j : Nat} {x : Str} (a : N[i]? = some x) (b : N[j]? = some x) : i = j := by
  obtain ⟨h1, e1⟩ := List.getElem?_eq_some_iff.mp a
  obtain ⟨h2, e2⟩ := List.getElem?_eq_some_iff.mp b
  exact (List.getElem_inj hN).mp (e1.trans e2.symm)
/-- a name is stored; what changed -/
theorem store_ok2 {M : Model} {A : Around} {E : Value → Shared → Prop} {i : Nat} {x : Str} {v : V} {u : Value} {Q : Unit → Shared → Prop} (I : Inv X pins σ H s) (hN : X.N.Nodup) (hi : X.N[i]? = some x) (hx : Loc X.env.scope x) (r : RelV v u)
    (h : ∀ s', Inv X pins (σ.set i (some v)) H s' → (∃ a, Heap.SameBut a s.heap s'.heap ∧ (a = X.env.locals ∨ X.env.cells.lookup x = some a)) → Q () s') (hf : X.fn x = true ∨ X.env.scope.names.lookup x = some .local := by first | exact .inl rfl | exact .inr rfl | assumption) : wpAny M A (storeName X.env x u) Q E s := by
  obtain ⟨m, hn, hl⟩ := id I.loc
  have hcls : (X.env.scope.kind == .class || (X.env.scope.kind == .module && X.env.locals != X.env.globals)) = false := by rw [I.ok.kind]; rfl
  have hiσ : i < σ.length := by rw [I.len]; exact (List.getElem?_eq_some_iff.mp hi).1
  have cne := I.cne
  have tracked : ∀ {a : Addr} {h' : Heap}, (∃ o, s.heap.get? a = some o ∧ H a = none) → Heap.SameBut a s.heap h' → HOk X.prog X.w H h' := fun {a h'} ha hs b ob e => by
    obtain ⟨_, _, hfree⟩ := ha
    refine (I.hok b ob e).stay (fun c w' hc q => (hs.2 c ?_).trans q) (fun _ q => q) fun _ _ q => q
    rintro rfl
    rcases hc with rfl | hc
    · rw [hfree] at e; cases e
    · rw [hfree] at hc; cases hc
  rcases hx with hk | hk
  · refine wpAny_storeName_local hk hn (fun h' hn' hs => ?_) hcls
    obtain ⟨oL, _, _, hoL, _⟩ := id hn
    refine h _ ⟨I.ok, I.os, I.bare, ⟨fun b o e n hb hx => ?_, fun b o e n hb hx => ?_, I.base.free, fun b o e hx => ?_, I.base.tups, I.base.frzs, I.base.tbls⟩, ⟨_, hn', fun j y v' e1 e2 e3 => ?_⟩, fun y c e => ?_, I.free, I.freeC, fun p hp => ?_, tracked ⟨oL, hoL, I.free⟩ hs, by simpa using I.len⟩ ⟨_, hs, .inl rfl⟩
    · exact (hs.2 b (Nat.ne_of_lt (Nat.lt_of_lt_of_le (Heap.lt_size e) I.ok.above))).trans (I.base.keep b o e n hb hx)
    · obtain ⟨sl, e1⟩ := I.base.slot b o e n hb hx
      exact ⟨sl, (hs.2 b (Nat.ne_of_lt (Nat.lt_of_lt_of_le (Heap.lt_size e) I.ok.above))).trans e1⟩
    · obtain ⟨o', e1⟩ := I.base.there b o e hx
      exact ⟨o', (hs.2 b (Nat.ne_of_lt (Nat.lt_of_lt_of_le (Heap.lt_size e) I.ok.above))).trans e1⟩
    · by_cases hj : j = i
      · subst hj
        rw [hi] at e1; cases e1
        rw [List.getElem?_set_self hiσ] at e2
        cases e2
        exact ⟨u, r, .inl ⟨hk, by simp⟩⟩
      · rw [List.getElem?_set_ne (Ne.symm hj)] at e2
        obtain ⟨u', r', q⟩ := hl j y v' e1 e2 e3
        refine ⟨u', r', ?_⟩
        rcases q with ⟨k, e⟩ | ⟨k, c, e, z⟩
        · refine .inl ⟨k, ?_⟩
          have : y ≠ x := fun e => hj (nodup_ix hN e1 (e ▸ hi))
          simp [this, e]
        · exact .inr ⟨k, c, e, z.sameBut hs (cne y c e)⟩
    · obtain ⟨w', z⟩ := I.cell y c e
      exact ⟨w', z.sameBut hs (cne y c e)⟩
    · obtain ⟨e, n, ne, nf, d⟩ := I.pin p hp
      exact ⟨(hs.2 p.1 ne).trans e, n, ne, nf, d⟩
  · have hfn : X.fn x = true := by
      rcases hf with z | z
      · exact z
      · rw [z] at hk; cases hk
    obtain ⟨c, hc⟩ := I.ok.has x (.inl hk)
    obtain ⟨w', z⟩ := I.cell x c hc
    refine wpAny_storeName_cell I.ok.kind hk hc z (fun h' hc' hs => ?_)
    obtain ⟨oc, hoc, hocd⟩ := id z
    refine h { s with heap := h' } ⟨I.ok, I.os, I.bare, ⟨fun b o e n hb hx => ?_, fun b o e n hb hx => ?_, I.base.free, fun b o e hx => ?_, I.base.tups, I.base.frzs, I.base.tbls⟩, ⟨m, hn.sameBut hs (Ne.symm (cne x c hc)), fun j y v' e1 e2 e3 => ?_⟩, fun y c' e => ?_, I.free, I.freeC, fun p hp => ?_, tracked ⟨oc, hoc, I.freeC x c hc⟩ hs, by simpa using I.len⟩ ⟨c, hs, .inr hc⟩
    · exact (hs.2 b (Nat.ne_of_lt (Nat.lt_of_lt_of_le (Heap.lt_size e) (I.ok.cab x c hfn hc)))).trans (I.base.keep b o e n hb hx)
    · obtain ⟨sl, e1⟩ := I.base.slot b o e n hb hx
      exact ⟨sl, (hs.2 b (Nat.ne_of_lt (Nat.lt_of_lt_of_le (Heap.lt_size e) (I.ok.cab x c hfn hc)))).trans e1⟩
    · obtain ⟨o', e1⟩ := I.base.there b o e hx
      exact ⟨o', (hs.2 b (Nat.ne_of_lt (Nat.lt_of_lt_of_le (Heap.lt_size e) (I.ok.cab x c hfn hc)))).trans e1⟩
    · by_cases hj : j = i
      · subst hj
        rw [hi] at e1; cases e1
        rw [List.getElem?_set_self hiσ] at e2
        cases e2
        exact ⟨u, r, .inr ⟨.inl hk, c, hc, hc'⟩⟩
      · rw [List.getElem?_set_ne (Ne.symm hj)] at e2
        obtain ⟨u', r', q⟩ := hl j y v' e1 e2 e3
        refine ⟨u', r', ?_⟩
        rcases q with q | ⟨k, c', e, z'⟩
        · exact .inl q
        · refine .inr ⟨k, c', e, z'.sameBut hs ?_⟩
          rintro rfl
          exact hj (nodup_ix hN e1 (I.ok.inj _ _ _ e hc ▸ hi))
    · by_cases hcc : c' = c
      · subst hcc; exact ⟨_, hc'⟩
      · obtain ⟨w2, z2⟩ := I.cell y c' e
        exact ⟨w2, z2.sameBut hs hcc⟩
    · obtain ⟨e, n, ne, nf, d⟩ := I.pin p hp
      refine ⟨(hs.2 p.1 ?_).trans e, n, ne, nf, d⟩
      intro q
      rw [q, hoc] at e
      have q' : oc = p.2 := Option.some.inj e
      exact d w' (by rw [← q']; exact hocd)
theorem store_ok {M : Model} {A : Around} {E : Value → Shared → Prop} {i : Nat} {x : Str} {v : V} {u : Value} {Q : Unit → Shared → Prop} (I : Inv X pins σ H s) (hN : X.N.Nodup) (hi : X.N[i]? = some x) (hx : Loc X.env.scope x) (r : RelV v u)
    (h : ∀ s', Inv X pins (σ.set i (some v)) H s' → Q () s') (hf : X.fn x = true ∨ X.env.scope.names.lookup x = some .local := by first | exact .inl rfl | exact .inr rfl | assumption) : wpAny M A (storeName X.env x u) Q E s :=
  store_ok2 I hN hi hx r (fun s' I' _ => h s' I') hf
/-- behind a call or a block, the state as it is -/
theorem Inv.call' {s' : Shared} {ch : List Addr} (I : Inv X pins σ H s) (ho : s'.os = s.os) (u : Un (frs X.stack) ch H H' s.heap s'.heap) (hok : HOk X.prog X.w H' s'.heap) (hg : AllBare s'.gens)
    (hch : ∀ b ∈ ch, (b ∈ X.ex ∨ X.s₀.heap.objs.size ≤ b) ∧ b ≠ X.env.locals ∧ (∀ x c, X.env.cells.lookup x = some c → c ≠ b) ∧ ∀ p ∈ X.pn ++ pins, p.1 ≠ b) : Inv X pins σ H' s' := by
  obtain ⟨h', g', d', t', o'⟩ := s'
  have e : o' = s.os := ho
  subst e
  exact I.call (g' := g') (t' := t') (d' := d') u hok hg hch
end
/-! ### the judgements -/
/-- an exception: its class, its own dict's address (where it has one), the abstract heap behind it -/
abbrev XK := Value → Option Addr → Hp → Prop
abbrev St := List (Option V)
abbrev VK := V → Hp → Prop
/-- an expression's reading; a test's; an argument list's -/
abbrev TE := St → Hp → VK → Prop
abbrev TT := St → Hp → (Bool → Hp → Prop) → Prop
abbrev TA := St → Hp → (List V → Hp → Prop) → Prop
/-- what is wanted behind a statement -/
structure Ends where
  nx : St → Hp → Prop
  rt : VK
  bk : St → Hp → Prop := fun _ _ => False
  ct : St → Hp → Prop := fun _ _ => False
abbrev TS := Ends → St → Hp → Prop
def EP (X : Cx) (pins : List (Addr × Obj)) (σ : St) (Q : VK) (u : Value) (s' : Shared) : Prop := ∃ v H', Inv X pins σ H' s' ∧ RelV v u ∧ Q v H'
def TP (X : Cx) (pins : List (Addr × Obj)) (σ : St) (Q : Bool → Hp → Prop) (b : Bool) (s' : Shared) : Prop := ∃ H', Inv X pins σ H' s' ∧ Q b H'
def AP (X : Cx) (pins : List (Addr × Obj)) (σ : St) (Q : List V → Hp → Prop) (us : List Value) (s' : Shared) : Prop := ∃ vs H', Inv X pins σ H' s' ∧ Vals vs us ∧ Q vs H'
def SP (X : Cx) (pins : List (Addr × Obj)) (D : Ends) (f : Flow) (s' : Shared) : Prop :=
  match f with
  | .next => ∃ σ' H', Inv X pins σ' H' s' ∧ D.nx σ' H'
  | .brk => ∃ σ' H', Inv X pins σ' H' s' ∧ D.bk σ' H'
  | .cont => ∃ σ' H', Inv X pins σ' H' s' ∧ D.ct σ' H'
  | .ret u => ∃ v σ' H', Inv X pins σ' H' s' ∧ RelV v u ∧ D.rt v H'
def PE (X : Cx) (e : Expr) (t : TE) : Prop :=
  ∀ (pins : List (Addr × Obj)) (s : Shared) (σ : St) (H : Hp) (Q : VK), Inv X pins σ H s → t σ H Q → wpAny (model X.prog X.w) X.A (eval e X.env) (EP X pins σ Q) X.xe s
def PT (X : Cx) (e : Expr) (t : TT) : Prop :=
  ∀ (pins : List (Addr × Obj)) (s : Shared) (σ : St) (H : Hp) (Q : Bool → Hp → Prop), Inv X pins σ H s → t σ H Q → wpAny (model X.prog X.w) X.A (isTrue e X.env (eval e X.env)) (TP X pins σ Q) X.xe s
/-- a test whatever its 'whole' is (and, or) -/
def PW (X : Cx) (e : Expr) (t : TT) : Prop :=
  ∀ (whole : Sem Value) (pins : List (Addr × Obj)) (s : Shared) (σ : St) (H : Hp) (Q : Bool → Hp → Prop), Inv X pins σ H s → t σ H Q → wpAny (model X.prog X.w) X.A (isTrue e X.env whole) (TP X pins σ Q) X.xe s
theorem PW.pt {X : Cx} {e : Expr} {t : TT} (h : PW X e t) : PT X e t := h _
/-- an argument list (no star), from the left -/
def PA (X : Cx) (es : List Expr) (t : TA) : Prop :=
  ∀ (pos : Pos) (pins : List (Addr × Obj)) (s : Shared) (σ : St) (H : Hp) (Q : List V → Hp → Prop), Inv X pins σ H s → t σ H Q → wpAny (model X.prog X.w) X.A (spliced (backTo pos (starEach es X.env))) (AP X pins σ Q) X.xe s
def PS (X : Cx) (st : Stmt) (t : TS) : Prop :=
  ∀ (pins : List (Addr × Obj)) (s : Shared) (σ : St) (H : Hp) (D : Ends), Inv X pins σ H s → t D σ H → wpAny (model X.prog X.w) X.A (exec st X.env) (SP X pins D) X.xe s
def PSs (X : Cx) (st : List Stmt) (t : TS) : Prop :=
  ∀ (pins : List (Addr × Obj)) (s : Shared) (σ : St) (H : Hp) (D : Ends), Inv X pins σ H s → t D σ H → wpAny (model X.prog X.w) X.A (execs st X.env) (SP X pins D) X.xe s
/-- weaken the end -/
theorem thn {α : Type} {t : Sem α} {Q Q' : α → Shared → Prop} {M : Model} {A : Around} {E : Value → Shared → Prop} {s : Shared} (h : wpAny M A t Q E s) (hQ : ∀ a s, Q a s → Q' a s) : wpAny M A t Q' E s := wpAny_mono h hQ fun _ _ x => x
end L2
namespace L2
open PySem PySem.Spec PyProof.Rows
section
variable {X : Cx}
/-! ### names and constants -/
def tVar (i : Nat) : TE := fun σ H Q => ∃ v, σ[i]? = some (some v) ∧ Q v H
def tC (v : V) : TE := fun _ H Q => Q v H
theorem pe_var {i : Nat} {x : Str} {pos : Pos} (hN : X.N[i]? = some x) (hv : Vis X.env.scope x) (hd : (x == ("__debug__" : Str)) = false := by decide) (hcd : (x == ("__classdict__" : Str)) = false := by decide) : PE X (.Name x pos) (tVar i) := by
  intro pins s σ H Q I h
  obtain ⟨v, e, h⟩ := h
  obtain ⟨m, hn, hl⟩ := I.loc
  obtain ⟨u, r, l⟩ := hl i x v hN e hv
  have fin : EP X pins σ Q u s := ⟨v, H, I, r, h⟩
  rcases l with ⟨hk, hm⟩ | ⟨hk, c, hc, hcell⟩
  · exact wpAny_Name (wpAny_loadName_local I.ok.kind hk hn hm fin) hd
  · rcases hk with hk | hk
    · exact wpAny_Name (wpAny_loadName_cell I.ok.kind hk hc hcell fin) hd
    · exact wpAny_Name (wpAny_loadName_free I.ok.kind hk hc hcell fin hcd) hd
theorem pe_int {i j pos} : PE X (.Constant (.int i) j pos) (tC (.int i)) := fun _ _ _ H _ I h => wpAny_Constant_int ⟨.int i, H, I.tok _, ⟨_, rfl⟩, h⟩
theorem pe_bl {b j pos} : PE X (.Constant (.bool b) j pos) (tC (.bl b)) := fun _ _ _ H _ I h => Constant_bool ⟨.bl b, H, I, rfl, h⟩
theorem pe_non {j pos} : PE X (.Constant .none j pos) (tC .non) := fun _ _ _ H _ I h => Constant_none ⟨.non, H, I, rfl, h⟩
theorem pe_str {x j pos} : PE X (.Constant (.str x) j pos) (tC (.str x)) := fun _ _ _ H _ I h => Calls.Constant_str ⟨.str x, H, I.tok _, ⟨_, rfl⟩, h⟩
/-- a global name of the def -/
def Gl (X : Cx) (x : Str) : Prop := X.env.kindOf x = some .globalImplicit
theorem ld_glob {E : Value → Shared → Prop} {pins : List (Addr × Obj)} {s : Shared} {σ : St} {H : Hp} {x : Str} {u : Value} {pos : Pos} {Q : Value → Shared → Prop} (I : Inv X pins σ H s) (hg : Gl X x) (hm : X.mg x = some u) (h : Q u s)
    (hd : (x == ("__debug__" : Str)) = false := by decide) : wpAny (model X.prog X.w) X.A (eval (.Name x pos) X.env) Q E s :=
  Calls.Name_function_global I.ok.kind hg (Calls.loadGlobal_global (by rw [I.ok.glob]; exact I.mod.glob.keeps I.bk) hm h) hd
theorem ld_blt {E : Value → Shared → Prop} {pins : List (Addr × Obj)} {s : Shared} {σ : St} {H : Hp} {x : Str} {u : Value} {pos : Pos} {Q : Value → Shared → Prop} (I : Inv X pins σ H s) (hg : Gl X x) (hm : X.mg x = none) (hv : bootBuiltins x = some u) (h : Q u s)
    (hn : x ≠ "__name__" := by decide) (hd : (x == ("__debug__" : Str)) = false := by decide) : wpAny (model X.prog X.w) X.A (eval (.Name x pos) X.env) Q E s := by
  obtain ⟨mb, h1, h2⟩ := I.mod.blt
  exact Calls.Name_function_global I.ok.kind hg (Calls.loadGlobal_builtin (by rw [I.ok.glob]; exact I.mod.glob.keeps I.bk) hm (by rw [I.ok.blt]; exact h1.keeps I.bk) ((h2 x hn).trans hv) h) hd
/-- a module's constant, a class, a function, as a value -/
theorem pe_glob {x : Str} {v : V} {u : Value} {pos : Pos} (hg : Gl X x) (hm : X.mg x = some u) (r : RelV v u) (hd : (x == ("__debug__" : Str)) = false := by decide) : PE X (.Name x pos) (tC v) :=
  fun _ _ _ H _ I h => ld_glob I hg hm ⟨v, H, I, r, h⟩ hd
variable {a b : Expr} {ta tb : TE} {pos : Pos}
/-! ### and, or, not -/
variable {tA tB' : TT} {rest : List Expr}
def tAnd (t u : TT) : TT := fun σ H Q => t σ H fun c H1 => if c = true then u σ H1 Q else Q false H1
theorem pw_and1 (ha : PT X a tA) : PW X (.BoolOp .And [a] pos) tA := by
  intro wh pins s σ H Q I h
  refine isTrue_and (thn (ha pins s σ H Q I h) fun c s1 e => ?_)
  cases c with
  | true => exact isTrue_and_nil e
  | false => exact e
theorem pw_and (ha : PT X a tA) (hb : PW X (.BoolOp .And (b :: rest) pos) tB') : PW X (.BoolOp .And (a :: b :: rest) pos) (tAnd tA tB') := by
  intro wh pins s σ H Q I h
  refine isTrue_and (thn (ha pins s σ H _ I h) fun c s1 ⟨H1, I1, q1⟩ => ?_)
  cases c with
  | true => exact hb wh pins s1 σ H1 Q I1 q1
  | false => exact ⟨H1, I1, q1⟩
end
end L2
namespace L2
open PySem PySem.Spec PyProof.Rows
/-! ### a list, a tuple that is read: tracked, frozen, or an object of the module -/
def SqL (K : PySem.W.Frag) (H : Hp) (a : Addr) (xs : List V) : Prop :=
  Rd H a (.lst xs) ∨
    ∃ (o : Obj) (its : Array Value) (n : Nat), K.lookup a = some o ∧ o.cls = .type "list" ∧ o.dict = none ∧ o.data = .seq its n ∧ its.size ≤ sizeLine ∧ Vals xs its.toList
def SqT (K : PySem.W.Frag) (H : Hp) (a : Addr) (xs : List V) : Prop :=
  Rd H a (.tup xs) ∨
    ∃ (o : Obj) (its : Array Value) (n : Nat), K.lookup a = some o ∧ o.cls = .type "tuple" ∧ o.data = .seq its n ∧ its.size ≤ sizeLine ∧ Vals xs its.toList
def absV : Value → Option V
  | .none => some .non
  | .bool b => some (.bl b)
  | .int i _ => some (.int i)
  | .str x _ => some (.str x)
  | .bytes b _ => some (.byt b)
  | .float b _ => some (.flt b)
  | .ref a => some (.ref a)
  | .type n => some (.ty n)
  | _ => none
theorem RelV.abs {x : V} {u : Value} (r : RelV x u) : absV u = some x := by
  cases x with
  | non => cases r; rfl
  | bl _ => cases r; rfl
  | int _ => obtain ⟨t, rfl⟩ := r; rfl
  | str _ => obtain ⟨t, rfl⟩ := r; rfl
  | byt _ => obtain ⟨t, rfl⟩ := r; rfl
  | flt _ => obtain ⟨t, rfl⟩ := r; rfl
  | ref _ => cases r; rfl
  | ty _ => cases r; rfl
theorem RelV.inj {x y : V} {u : Value} (r : RelV x u) (q : RelV y u) : x = y := Option.some.inj (r.abs.symm.trans q.abs)
theorem Vals.inj : ∀ {xs ys : List V} {us : List Value}, Vals xs us → Vals ys us → xs = ys
  | _, _, _, .nil, .nil => rfl
  | _, _, _, .cons r t, .cons r' t' => by rw [r.inj r', Vals.inj t t']
section
variable {X : Cx} {pins : List (Addr × Obj)} {σ : St} {H : Hp} {s : Shared} {a : Addr} {xs ys : List V}
theorem SqL.of {K : PySem.W.Frag} (h : H a = some (.lst xs)) : SqL K H a xs := .inl (.inl h)
theorem SqT.of {K : PySem.W.Frag} (h : H a = some (.tup xs)) : SqT K H a xs := .inl (.inl h)
theorem Inv.list (I : Inv X pins σ H s) (h : SqL X.K H a xs) : ∃ its : List Value, Vals xs its ∧ PlainL s.heap a its.toArray ∧ xs.length ≤ sizeLine := by
  rcases h with h | ⟨o, its, n, hk, hc, hd, hs, hz, r⟩
  · obtain ⟨z, its, n, r, e⟩ := h.ok I.hok
    exact ⟨its, r, ⟨_, n, e, rfl, rfl, rfl⟩, z⟩
  · refine ⟨its.toList, r, ⟨o, n, I.kIn a o hk, hc, hd, by simpa using hs⟩, ?_⟩
    have e := r.length
    simp only [Array.length_toList] at e
    omega
theorem Inv.tuple (I : Inv X pins σ H s) (h : SqT X.K H a xs) : ∃ its : List Value, Vals xs its ∧ IsTup s.heap a its.toArray ∧ xs.length ≤ sizeLine := by
  rcases h with h | ⟨o, its, n, hk, hc, hs, hz, r⟩
  · obtain ⟨⟨z, _⟩, its, r, p⟩ := h.ok I.hok
    exact ⟨its, r, p, z⟩
  · refine ⟨its.toList, r, ⟨o, I.kIn a o hk, hc, n, by simpa using hs⟩, ?_⟩
    have e := r.length
    simp only [Array.length_toList] at e
    omega
theorem Inv.list_inj (I : Inv X pins σ H s) (h : SqL X.K H a xs) (h' : SqL X.K H a ys) : xs = ys := by
  obtain ⟨its, r, ⟨o, n, e, _, _, d⟩, _⟩ := I.list h
  obtain ⟨its', r', ⟨o', n', e', _, _, d'⟩, _⟩ := I.list h'
  rw [e] at e'; cases e'
  rw [d] at d'
  injection d' with d1 _
  have : its = its' := by simpa using congrArg Array.toList d1
  subst this
  exact r.inj r'
theorem Inv.tuple_inj (I : Inv X pins σ H s) (h : SqT X.K H a xs) (h' : SqT X.K H a ys) : xs = ys := by
  obtain ⟨its, r, ⟨o, e, _, n, d⟩, _⟩ := I.tuple h
  obtain ⟨its', r', ⟨o', e', _, n', d'⟩, _⟩ := I.tuple h'
  rw [e] at e'; cases e'
  rw [d] at d'
  injection d' with d1 _
  have : its = its' := by simpa using congrArg Array.toList d1
  subst this
  exact r.inj r'
end
/-! ### another wish about exceptions -/
abbrev Cx.wish (X : Cx) (E : Value → Shared → Prop) : Cx := { X with xe := E }
/-- no exception leaves -/
abbrev Cx.nox (X : Cx) : Cx := X.wish fun _ _ => False
theorem Cx.Ok.wish {X : Cx} (ok : X.Ok) (E : Value → Shared → Prop) : (X.wish E).Ok :=
  ⟨ok.mod, ok.kind, ok.glob, ok.blt, ok.above, ok.inj, ok.has, ok.cab, ok.hd, ok.frames, ok.stk, ok.exf, ok.bs, ok.bsz, ok.noex, ok.exfs, ok.funs, ok.frf⟩
theorem Cx.Ok.unwish {X : Cx} {E : Value → Shared → Prop} (ok : (X.wish E).Ok) : X.Ok :=
  ⟨ok.mod, ok.kind, ok.glob, ok.blt, ok.above, ok.inj, ok.has, ok.cab, ok.hd, ok.frames, ok.stk, ok.exf, ok.bs, ok.bsz, ok.noex, ok.exfs, ok.funs, ok.frf⟩
section
variable {X : Cx} {pins : List (Addr × Obj)} {σ : St} {H : Hp} {s : Shared} {E : Value → Shared → Prop}
theorem Inv.wish (I : Inv X pins σ H s) (E : Value → Shared → Prop) : Inv (X.wish E) pins σ H s := ⟨I.ok.wish E, I.os, I.bare, I.base, I.loc, I.cell, I.free, I.freeC, I.pin, I.hok, I.len⟩
theorem Inv.unwish (I : Inv (X.wish E) pins σ H s) : Inv X pins σ H s := ⟨I.ok.unwish, I.os, I.bare, I.base, I.loc, I.cell, I.free, I.freeC, I.pin, I.hok, I.len⟩
theorem SP.unwish {D : Ends} {f : Flow} {s' : Shared} (h : SP (X.wish E) pins D f s') : SP X pins D f s' := by
  cases f with
  | next => obtain ⟨σ', H', I, q⟩ := h; exact ⟨σ', H', I.unwish, q⟩
  | brk => obtain ⟨σ', H', I, q⟩ := h; exact ⟨σ', H', I.unwish, q⟩
  | cont => obtain ⟨σ', H', I, q⟩ := h; exact ⟨σ', H', I.unwish, q⟩
  | ret u => obtain ⟨v, σ', H', I, r, q⟩ := h; exact ⟨v, σ', H', I.unwish, r, q⟩
theorem PSs.nox {st : List Stmt} {t : TS} (h : PSs X.nox st t) : PSs X st t := fun pins s σ H D I hw =>
  wpAny_mono (h pins s σ H D (I.wish _) hw) (fun _ _ q => q.unwish) fun _ _ z => False.elim z
end
/-! ### blocks and small statements -/
section
variable {X : Cx} {st : Stmt} {rest : List Stmt} {t u : TS} {e : Expr} {te : TE} {pos : Pos}
def tNext : TS := fun D σ H => D.nx σ H
def tSeq (t u : TS) : TS := fun D σ H => t { D with nx := u D } σ H
theorem pss_nil : PSs X [] tNext := fun _ _ σ H _ I h => wpAny_execs_nil ⟨σ, H, I, h⟩
theorem pss_cons (h1 : PS X st t) (h2 : PSs X rest u) : PSs X (st :: rest) (tSeq t u) := by
  intro pins s σ H D I h
  refine wpAny_execs_cons (thn (h1 pins s σ H { D with nx := u D } I h) fun f s1 q => ?_)
  cases f with
  | next =>
    obtain ⟨σ', H', I', q⟩ := q
    exact h2 pins s1 σ' H' D I' q
  | ret v => exact q
  | brk => exact q
  | cont => exact q
theorem pss_one (h1 : PS X st t) : PSs X [st] t := by
  intro pins s σ H D I h
  refine wpAny_execs_cons (thn (h1 pins s σ H D I h) fun f s1 q => ?_)
  cases f with
  | next => exact wpAny_execs_nil q
  | ret v => exact q
  | brk => exact q
  | cont => exact q
/-- in a def's body nothing is shown -/
theorem Inv.quiet {pins : List (Addr × Obj)} {σ : St} {H : Hp} {s : Shared} (I : Inv X pins σ H s) : interactive X.env = false := by simp [interactive, I.ok.kind]
/-- an expression whose value is dropped -/
def tDrop (te : TE) : TS := fun D σ H => te σ H fun _ H1 => D.nx σ H1
theorem ps_expr (he : PE X e te) (hs : swapsWith e none pos.line X.env = pure false := by rfl) : PS X (.Expr e pos) (tDrop te) := by
  intro pins s σ H D I h
  exact wpAny_Expr_any (thn (he pins s σ H _ I h) fun v s1 ⟨x, H1, I1, r1, q1⟩ => ⟨σ, H1, I1, q1⟩) I.quiet hs
def tRet (te : TE) : TS := fun D σ H => te σ H D.rt
theorem ps_ret (he : PE X e te) : PS X (.Return (some e) pos) (tRet te) := by
  intro pins s σ H D I h
  exact wpAny_Return_some (thn (he pins s σ H _ I h) fun v s1 ⟨x, H1, I1, r1, q1⟩ => ⟨x, σ, H1, I1, r1, q1⟩)
def tIfS (c : TT) (t u : TS) : TS := fun D σ H => c σ H fun b H1 => if b = true then t D σ H1 else u D σ H1
theorem ps_if {c : Expr} {a b : List Stmt} {tc : TT} (hc : PT X c tc) (ha : PSs X a t) (hb : PSs X b u) : PS X (.If c a b pos) (tIfS tc t u) := by
  intro pins s σ H D I h
  refine wpAny_If (thn (hc pins s σ H _ I h) fun d s1 ⟨H1, I1, q1⟩ => ?_)
  cases d with
  | true => exact ha pins s1 σ H1 D I1 q1
  | false => exact hb pins s1 σ H1 D I1 q1
end
/-! ### targets -/
abbrev TG := V → St → Hp → (St → Hp → Prop) → Prop
abbrev TGs := List V → St → Hp → (St → Hp → Prop) → Prop
def PG (X : Cx) (target : Expr) (t : TG) : Prop :=
  ∀ (pins : List (Addr × Obj)) (s : Shared) (σ : St) (H : Hp) (v : V) (u : Value) (Q : St → Hp → Prop), Inv X pins σ H s → RelV v u → t v σ H Q →
    wpAny (model X.prog X.w) X.A (assign target X.env u) (fun _ s' => ∃ σ' H', Inv X pins σ' H' s' ∧ Q σ' H') X.xe s
/-- several targets, one after another -/
def PGs (X : Cx) (ts : List Expr) (t : TGs) : Prop :=
  ∀ (pins : List (Addr × Obj)) (s : Shared) (σ : St) (H : Hp) (vs : List V) (us : List Value) (Q : St → Hp → Prop), Inv X pins σ H s → Vals vs us → t vs σ H Q →
    wpAny (model X.prog X.w) X.A (assignInOrder ((assignEach ts X.env).map (·.2)) us) (fun _ s' => ∃ σ' H', Inv X pins σ' H' s' ∧ Q σ' H') X.xe s
/-- o[i] = v, by values -/
abbrev TSet := V → V → V → Hp → (Hp → Prop) → Prop
def PSet (X : Cx) (t : TSet) : Prop :=
  ∀ (pins : List (Addr × Obj)) (s : Shared) (σ : St) (H : Hp) (o i v : V) (ov iv u : Value) (Q : Hp → Prop), Inv X pins σ H s → RelV o ov → RelV i iv → RelV v u → t o i v H Q →
    wpAny (model X.prog X.w) X.A (setItem ov iv u) (fun _ s' => ∃ H', Inv X pins σ H' s' ∧ Q H') X.xe s
section
variable {X : Cx} {pos : Pos}
def gName (i : Nat) : TG := fun v σ H Q => Q (σ.set i (some v)) H
theorem pg_name {i : Nat} {x : Str} (hN : X.N.Nodup) (hi : X.N[i]? = some x) (hx : Loc X.env.scope x) (hf : X.fn x = true ∨ X.env.scope.names.lookup x = some .local := by first | exact .inl rfl | exact .inr rfl | assumption) : PG X (.Name x pos) (gName i) := by
  intro pins s σ H v u Q I r h
  exact wpAny_assign_Name (store_ok I hN hi hx r (fun s' I' => ⟨_, H, I', h⟩) hf)
def gNil : TGs := fun vs σ H Q => vs = [] ∧ Q σ H
def gCons (t : TG) (u : TGs) : TGs := fun vs σ H Q => ∃ v r, vs = v :: r ∧ t v σ H fun σ' H' => u r σ' H' Q
theorem pgs_nil : PGs X [] gNil := by
  intro pins s σ H vs us Q I r h
  obtain ⟨e, h⟩ := h
  subst e
  cases r
  exact assignInOrder_nil ⟨σ, H, I, h⟩
theorem pgs_cons {e : Expr} {es : List Expr} {t : TG} {u : TGs} (h1 : PG X e t) (h2 : PGs X es u)
    (hs : (assignEach (e :: es) X.env).map (·.2) = assign e X.env :: (assignEach es X.env).map (·.2) := by rfl) : PGs X (e :: es) (gCons t u) := by
  intro pins s σ H vs us Q I r h
  obtain ⟨v, vr, e1, h⟩ := h
  subst e1
  cases r with
  | cons r rr =>
    rw [hs]
    refine assignInOrder_cons (thn (h1 pins s σ H _ _ _ I r h) fun _ s1 ⟨σ1, H1, I1, q1⟩ => ?_)
    exact h2 pins s1 σ1 H1 _ _ Q I1 rr q1
/-- (a, b, ..) = a tuple of that length -/
def gTup (K : PySem.W.Frag) (n : Nat) (t : TGs) : TG := fun v σ H Q => ∃ a xs, v = .ref a ∧ SqT K H a xs ∧ xs.length = n ∧ t xs σ H Q
theorem pg_tup {es : List Expr} {k : Nat} {t : TGs} {n : Nat} (hc : X.calm = true) (h : PGs X es t)
    (hn : (assignEach es X.env).length = n := by rfl) (hst : (assignEach es X.env).findIdx? (·.1) = none := by rfl) : PG X (.Tuple es k pos) (gTup X.K n t) := by
  intro pins s σ H v u Q I r hw
  obtain ⟨a, xs, e1, hq, hl, hw⟩ := hw
  subst e1
  cases r
  obtain ⟨its, rv, ht, hz⟩ := I.tuple hq
  refine assign_Tuple_tuple (I.ok.hd hc) ht (by simp [hn, ← hl, rv.length]) hst fun h' hx => ?_
  have I1 : Inv X pins σ H { s with heap := h' } := I.kept (t' := s.toks) fun b o e => hx b o (Nat.ne_of_lt (Heap.lt_size e)) e
  exact h pins _ σ H xs _ Q I1 (by simpa using rv) hw
/-- o[i] = .. -/
def gSub (to ti : TE) (t : TSet) : TG := fun v σ H Q => to σ H fun o H1 => ti σ H1 fun i H2 => t o i v H2 fun H3 => Q σ H3
theorem pg_sub {o i : Expr} {to ti : TE} {t : TSet} (ho : PE X o to) (hi : PE X i ti) (hs : PSet X t)
    (ha : ∀ v, assign (.Subscript o i pos) X.env v = (do
      let ov ← holding [v] (eval o X.env)
      let iv ← holding [v, ov] (eval i X.env)
      standAt pos
      holding [v, ov, iv] (setItem ov iv v)
      release [v, ov, iv] []) := by intro _; rfl) : PG X (.Subscript o i pos) (gSub to ti t) := by
  intro pins s σ H v u Q I r h
  rw [ha]
  refine wpAny_bind (wpAny_holding (thn (ho pins s σ H _ I h) fun ov s1 ⟨x, H1, I1, r1, q1⟩ => ?_))
  refine wpAny_bind (wpAny_holding (thn (hi pins s1 σ H1 _ I1 q1) fun iv s2 ⟨y, H2, I2, r2, q2⟩ => ?_))
  refine wpAny_bind (wpAny_standAt (wpAny_bind (wpAny_holding (thn (hs pins s2 σ H2 x y v ov iv u _ I2 r1 r2 r q2) fun _ s3 ⟨H3, I3, q3⟩ => ?_))))
  exact wpAny_release ⟨σ, H3, I3, q3⟩
/-- target = value -/
def tAsg (te : TE) (g : TG) : TS := fun D σ H => te σ H fun x H1 => g x σ H1 D.nx
theorem ps_asg {tg e : Expr} {te : TE} {g : TG} (he : PE X e te) (hg : PG X tg g) (hs : swapsWithSole [tg] e pos.line X.env = pure false := by rfl) (hw : swappedStores [tg] e X.env = pure none := by rfl)
    (h1 : (assignEach [tg] X.env).map (·.2) = [assign tg X.env] := by rfl) : PS X (.Assign [tg] e pos) (tAsg te g) := by
  intro pins s σ H D I h
  refine wpAny_Assign_stores (thn (he pins s σ H _ I h) fun v s1 ⟨x, H1, I1, r1, q1⟩ => ?_) hs hw
  rw [h1]
  exact thn (hg pins s1 σ H1 x v _ I1 r1 q1) fun _ s2 q => q
/-- name = value -/
theorem ps_set {i : Nat} {x : Str} {e : Expr} {te : TE} {pos' : Pos} (hN : X.N.Nodup) (hi : X.N[i]? = some x) (hx : Loc X.env.scope x) (he : PE X e te) (hs : swapsWith e (some (.Name x pos')) pos.line X.env = pure false := by rfl) (hf : X.fn x = true ∨ X.env.scope.names.lookup x = some .local := by first | exact .inl rfl | exact .inr rfl | assumption) :
    PS X (.Assign [.Name x pos'] e pos) (tAsg te (gName i)) := by
  intro pins s σ H D I h
  refine wpAny_Assign_Name (thn (he pins s σ H _ I h) fun v s1 ⟨y, H1, I1, r1, q1⟩ => ?_) hs
  exact store_ok I1 hN hi hx r1 (fun s2 I2 => ⟨_, H1, I2, q1⟩) hf
/-- a, b = x, y with plain local names: stored from the right; the pair itself is not tracked (the opening rows as in PyProof/Rows/TupAssign.lean:23) -/
def tPar (i j : Nat) (ta : TA) : TS := fun D σ H => ta σ H fun vs H1 => ∃ v w, vs = [v, w] ∧ D.nx ((σ.set i (some v)).set j (some w)) H1
theorem ps_par {i j : Nat} {x y : Str} {a b : Expr} {ta : TA} {px py pt : Pos} {kt k2 pt2} (hc : X.calm = true) (hN : X.N.Nodup) (hi : X.N[i]? = some x) (hj : X.N[j]? = some y) (hij : i ≠ j)
    (hx : X.env.scope.names.lookup x = some .local) (hy : X.env.scope.names.lookup y = some .local) (ha : PA X [a, b] ta)
    (hw : swappedStores [.Tuple [.Name x px, .Name y py] kt pt] (.Tuple [a, b] k2 pt2) X.env = pure (some [x, y]))
    (hs : swapsWithSole [.Tuple [.Name x px, .Name y py] kt pt] (.Tuple [a, b] k2 pt2) pos.line X.env = pure false := by rfl) :
    PS X (.Assign [.Tuple [.Name x px, .Name y py] kt pt] (.Tuple [a, b] k2 pt2) pos) (tPar i j ta) := by
  intro pins s σ H D I h
  rw [exec_Assign_arm]
  refine wpAny_bind (wpAny_standAt ?_)
  rw [hs]
  refine wpAny_bind (wpAny_pure ?_)
  rw [if_neg (by decide)]
  refine wpAny_bind (Tuple_ (thn (ha _ pins s σ H _ I h) fun us s1 ⟨vs, H1, I1, r1, q1⟩ => ?_))
  obtain ⟨v, w, e1, q1⟩ := q1
  subst e1
  obtain ⟨u1, u2, rfl, rv, rw'⟩ : ∃ u1 u2, us = [u1, u2] ∧ RelV v u1 ∧ RelV w u2 := by
    cases r1 with
    | cons p q =>
      cases q with
      | cons p' q' =>
        cases q'
        exact ⟨_, _, rfl, p, p'⟩
  refine wpAny_newObj_type ?_ (by show 2 ≤ sizeLine; decide)
  have I2 : Inv X pins σ H1 { s1 with heap := s1.heap.push { cls := .type "tuple", data := .seq [u1, u2].toArray } } := I1.kept (t' := s1.toks) fun b o e => Heap.get?_push_of_some _ e
  rw [hw]
  refine wpAny_bind (wpAny_pure ?_)
  show wpAny (model X.prog X.w) X.A (do rule "assign.swapped-stores"; let items ← unpackItems (.ref s1.heap.objs.size) 2 none; assignInOrder [fun v => bindName X.env y v, fun v => bindName X.env x v] items.reverse; pure Flow.next) _ _ _
  refine wpAny_bind (wpAny_rule (wpAny_bind (unpackItems_tuple (items := #[u1, u2]) (I.ok.hd hc) (IsTup.new s1.heap _) fun h' hx' => ?_)))
  have I3 := I2.kept (h' := h') (t' := s1.toks) fun b o e => hx' b o (Nat.ne_of_lt (Heap.lt_size e)) e
  show wpAny _ _ (assignInOrder [fun v => bindName X.env y v, fun v => bindName X.env x v] [u2, u1] >>= fun _ => pure Flow.next) _ _ _
  refine wpAny_bind (assignInOrder_cons (wpAny_bindName (store_ok I3 hN hj (.inl hy) rw' (fun s2 I4 => ?_) (.inr hy))))
  refine assignInOrder_cons (wpAny_bindName (store_ok I4 hN hi (.inl hx) rv (fun s3 I5 => assignInOrder_nil (wpAny_pure ?_)) (.inr hx)))
  rw [List.set_comm _ _ (Ne.symm hij)] at I5
  exact ⟨_, H1, I5, q1⟩
end
/-! ### while -/
section
variable {X : Cx} {pos : Pos}
/-- the invariant W with its measure -/
def tWhile (c : TT) (tb : TS) : TS := fun D σ H => ∃ W : Nat → St → Hp → Prop, (∃ m, W m σ H) ∧ ∀ m σ H, W m σ H →
  c σ H fun b H1 => if b = true then ∃ N : St → Hp → Prop, (∀ σ' H', N σ' H' → ∃ m', m' < m ∧ W m' σ' H') ∧ tb { D with nx := N, ct := N, bk := D.nx } σ H1 else D.nx σ H1
theorem ps_while {c : Expr} {body : List Stmt} {tc : TT} {tb : TS} (hp : PassesOwn (model X.prog X.w) X.A X.env X.xe) (hc : PT X c tc) (hb : PSs X body tb) : PS X (.While c body [] pos) (tWhile tc tb) := by
  intro pins s σ H D I h
  obtain ⟨W, ⟨m0, w0⟩, turn⟩ := h
  refine wpAny_While (codeAny_whileLoop (fun n s' => ∃ σ' H', Inv X pins σ' H' s' ∧ W n σ' H') ?_ m0 ⟨σ, H, I, w0⟩)
  rintro n s1 ⟨σ1, H1, I1, w1⟩
  refine wpAny_passesOwn hp (thn (hc pins s1 σ1 H1 _ I1 (turn n σ1 H1 w1)) fun b s2 ⟨H2, I2, q2⟩ => ?_)
  cases b with
  | true =>
    obtain ⟨N, hN, q2⟩ := q2
    rw [if_pos rfl]
    refine wpAny_passesOwn hp (thn (hb pins s2 σ1 H2 _ I2 q2) fun f s3 q3 => ?_)
    cases f with
    | next =>
      obtain ⟨σ3, H3, I3, n3⟩ := q3
      obtain ⟨m', hm, w3⟩ := hN σ3 H3 n3
      exact ⟨m', hm, σ3, H3, I3, w3⟩
    | cont =>
      obtain ⟨σ3, H3, I3, n3⟩ := q3
      obtain ⟨m', hm, w3⟩ := hN σ3 H3 n3
      exact ⟨m', hm, σ3, H3, I3, w3⟩
    | brk => exact q3
    | ret v => exact q3
  | false =>
    rw [if_neg Bool.false_ne_true]
    exact wpAny_execs_nil ⟨σ1, H2, I2, q2⟩
end
/-! ### what a loop or a comprehension walks -/
/-- at turn i: it yields x (the heap may grow), or it stops -/
structure It where
  go : Nat → Hp → Prop
  yld : Nat → Hp → V → Hp → Prop
  stop : Nat → Hp → Prop
/-- the iterator's own objects may turn: they are not the frame's, not pinned, younger than the entry (or a comprehension's own) -/
def FpOk (X : Cx) (pins : List (Addr × Obj)) (H : Hp) (b : Addr) : Prop :=
  H b = none ∧ b ≠ X.env.locals ∧ b ∉ X.fs ∧ (b ∈ X.ex ∨ X.s₀.heap.objs.size ≤ b) ∧ (∀ x c, X.env.cells.lookup x = some c → c ≠ b) ∧ ∀ p ∈ X.pn ++ pins, p.1 ≠ b
theorem Inv.fpOk {X : Cx} {pins : List (Addr × Obj)} {σ : St} {H H' : Hp} {s : Shared} {b : Addr} (I : Inv X pins σ H s) (hb : s.heap.objs.size ≤ b) (hn : H' b = none) : FpOk X pins H' b := by
  refine ⟨hn, Nat.ne_of_gt (Nat.lt_of_lt_of_le I.lt hb), I.nofs hb, .inr (Nat.le_trans I.sz hb), fun x c e z => ?_, fun p hp z => ?_⟩
  · obtain ⟨v, q⟩ := I.cell x c e
    exact absurd (Nat.lt_of_lt_of_le q.lt (by rw [z]; exact hb)) (Nat.lt_irrefl _)
  · exact absurd (Nat.lt_of_lt_of_le (Heap.lt_size (I.pin p hp).1) (by rw [z]; exact hb)) (Nat.lt_irrefl _)
structure Turn (P : Program) (w : World) (K : PySem.W.Frag) (tg : Expr) (J : It) (fp : List Addr) (it : Addr) (tn : Nat → Heap → Prop) : Prop where
  mem : it ∈ fp
  obj : ∀ i h, tn i h → ∀ b ∈ fp, ∃ o, h.get? b = some o ∧ ∀ v, o.data ≠ .cell v
  keep : ∀ i h h', tn i h → (∀ b ∈ fp, ∀ o, h.get? b = some o → h'.get? b = some o) → tn i h'
  item : ∀ (X : Cx), X.prog = P → X.w = w → X.K = K → X.calm = true → ∀ (i : Nat) (pins : List (Addr × Obj)) (s : Shared) (σ : St) (H : Hp) (E : Value → Shared → Prop), Inv X pins σ H s → (∀ b ∈ fp, FpOk X pins H b) → tn i s.heap → J.go i H →
    wpAny (model P w) X.A (pyNext (.ref it)) (fun r s1 => ∃ u, r = some u ∧
      wpAny (model P w) X.A (letOwnedTupleGo tg (.ref it) u) (fun _ s2 => ∃ x H', Inv X pins σ H' s2 ∧ RelV x u ∧ J.yld i H x H' ∧ tn (i + 1) s2.heap ∧ ∀ b ∈ fp, H' b = none) E s1) E s
  done : ∀ (X : Cx), X.prog = P → X.w = w → X.K = K → X.calm = true → ∀ (i : Nat) (pins : List (Addr × Obj)) (s : Shared) (σ : St) (H : Hp) (E : Value → Shared → Prop), Inv X pins σ H s → (∀ b ∈ fp, FpOk X pins H b) → tn i s.heap → J.stop i H →
    wpAny (model P w) X.A (pyNext (.ref it)) (fun r s1 => r = none ∧ Inv X pins σ H s1) E s
  self : ∀ (A : Around) (i : Nat) (s : Shared) (Q : Value → Shared → Prop) (E : Value → Shared → Prop), tn i s.heap → Q (.ref it) s → wpAny (model P w) A (pyIter (.ref it)) Q E s
abbrev TI := St → Hp → (It → Hp → Prop) → Prop
/-- an iterator has come -/
def PIE (X : Cx) (pins : List (Addr × Obj)) (σ : St) (tg : Expr) (R : It → Hp → Prop) (itv : Value) (s2 : Shared) : Prop :=
  ∃ (it : Addr) (fp : List Addr) (tn : Nat → Heap → Prop) (J : It) (H' : Hp), itv = .ref it ∧ Inv X pins σ H' s2 ∧ Turn X.prog X.w X.K tg J fp it tn ∧ tn 0 s2.heap ∧ (∀ b ∈ fp, FpOk X pins H' b) ∧ R J H'
def PI (X : Cx) (tg iter : Expr) (wi : TI) : Prop :=
  ∀ (pins : List (Addr × Obj)) (s : Shared) (σ : St) (H : Hp) (R : It → Hp → Prop), Inv X pins σ H s → wi σ H R →
    wpAny (model X.prog X.w) X.A (eval iter X.env) (fun v s1 => wpAny (model X.prog X.w) X.A (pyIter v) (PIE X pins σ tg R) X.xe s1) X.xe s
/-- the step ahead of the store is nothing for an iterator that keeps no tuple -/
theorem go_of {M : Model} {A : Around} {E : Value → Shared → Prop} {s : Shared} {tg : Expr} {it : Addr} {u : Value} {o : Obj} {n : String} {vs : Array Value} {Q : Unit → Shared → Prop} (ho : s.heap.get? it = some o) (hc : o.cls = .type n) (hd : o.data = .fields vs)
    (hn : ["enumerate", "zip", "dict_itemiterator", "dict_reverseitemiterator", "odict_iterator", "itertools.zip_longest", "itertools.pairwise"].contains n = false) (hQ : Q () s) : wpAny M A (letOwnedTupleGo tg (.ref it) u) Q E s := by
  unfold letOwnedTupleGo
  cases tg <;> first
    | exact wpAny_pure hQ
    | (cases u <;> first
        | exact wpAny_pure hQ
        | (refine wpAny_bind (wpAny_load ho ?_)
           rw [hc, hd]
           show wpAny M A (if (["enumerate", "zip", "dict_itemiterator", "dict_reverseitemiterator", "odict_iterator", "itertools.zip_longest", "itertools.pairwise"].contains n && vs[0]? == some (rawInt _)) = true then _ else _) Q E s
           rw [if_neg (by intro h; rw [hn, Bool.false_and] at h; cases h)]
           exact wpAny_pure hQ))
/-- the list at a, as it stands at each turn (a loop may append to it) -/
def Itl (K : PySem.W.Frag) (a : Addr) : It :=
  ⟨fun i H => ∃ xs x, SqL K H a xs ∧ xs[i]? = some x, fun i H x H' => H' = H ∧ ∀ xs, SqL K H a xs → xs[i]? = some x, fun i H => ∃ xs, SqL K H a xs ∧ xs.length ≤ i⟩
def Itt (K : PySem.W.Frag) (a : Addr) : It :=
  ⟨fun i H => ∃ xs x, SqT K H a xs ∧ xs[i]? = some x, fun i H x H' => H' = H ∧ ∀ xs, SqT K H a xs → xs[i]? = some x, fun i H => ∃ xs, SqT K H a xs ∧ xs.length ≤ i⟩
/-- lo, lo + 1, .. (n of them) -/
def Itr (lo : Int) (n : Nat) : It := ⟨fun i _ => i < n, fun i H x H' => H' = H ∧ x = .int (lo + i), fun i _ => n ≤ i⟩
theorem turn_list {P : Program} {w : World} {K : PySem.W.Frag} {tg : Expr} (a it : Addr) : Turn P w K tg (Itl K a) [it] it (fun i h => h.IsListIter it a i) where
  mem := by simp
  obj := fun i h st b hb => by
    have e : b = it := by simpa using hb
    subst e
    obtain ⟨o, e, c, d⟩ := st
    exact ⟨o, e, fun v z => by rw [d] at z; cases z⟩
  keep := fun i h h' st k => st.at fun o e => k it (by simp) o e
  item := by
    intro X hP hw hK hc i pins s σ H E I hf st hg
    subst hP hw hK
    obtain ⟨xs, x, hq, hx⟩ := hg
    obtain ⟨its, rv, p, hz⟩ := I.list hq
    obtain ⟨u, hu, ru⟩ := rv.get hx
    obtain ⟨f0, f1, f2, f3, f4, f5⟩ := hf it (by simp)
    refine wpAny_pyNext_list_item st p.isList (x := u) (by simpa using hu) fun h' st' sb => ?_
    have I1 : Inv X pins σ H { s with heap := h' } := I.turned (t' := s.toks) (fun b o hb e => (sb.2 b hb).trans e) f0 f1 f3 f4 f5
    obtain ⟨o, e, c, d⟩ := id st'
    exact ⟨u, rfl, go_of (s := { s with heap := h' }) e c d (by decide) ⟨x, H, I1, ru, ⟨rfl, fun ys hy => by rw [I.list_inj hy hq]; exact hx⟩, st', fun b hb => (hf b hb).1⟩⟩
  done := by
    intro X hP hw hK hc i pins s σ H E I hf st hg
    subst hP hw hK
    obtain ⟨xs, hq, hx⟩ := hg
    obtain ⟨its, rv, p, hz⟩ := I.list hq
    obtain ⟨f0, f1, f2, f3, f4, f5⟩ := hf it (by simp)
    have hl := rv.length
    exact wpAny_pyNext_list_end (I.ok.hd hc) st p.isList (by simp; omega) fun h' eb => ⟨rfl, I.turned (t' := s.toks) (fun b o hb e => eb b o hb e) f0 f1 f3 f4 f5⟩
  self := fun _ _ _ _ _ st h => wpAny_pyIter_listiter st h
theorem turn_tuple {P : Program} {w : World} {K : PySem.W.Frag} {tg : Expr} (a it : Addr) : Turn P w K tg (Itt K a) [it] it (fun i h => h.IsTupleIter it a i) where
  mem := by simp
  obj := fun i h st b hb => by
    have e : b = it := by simpa using hb
    subst e
    obtain ⟨o, e, c, d⟩ := st
    exact ⟨o, e, fun v z => by rw [d] at z; cases z⟩
  keep := fun i h h' st k => st.at fun o e => k it (by simp) o e
  item := by
    intro X hP hw hK hc i pins s σ H E I hf st hg
    subst hP hw hK
    obtain ⟨xs, x, hq, hx⟩ := hg
    obtain ⟨its, rv, p, hz⟩ := I.tuple hq
    obtain ⟨u, hu, ru⟩ := rv.get hx
    obtain ⟨f0, f1, f2, f3, f4, f5⟩ := hf it (by simp)
    refine wpAny_pyNext_tuple_item st (show s.heap.IsTuple a its.toArray from p) (x := u) (by simpa using hu) fun h' st' sb => ?_
    have I1 : Inv X pins σ H { s with heap := h' } := I.turned (t' := s.toks) (fun b o hb e => (sb.2 b hb).trans e) f0 f1 f3 f4 f5
    obtain ⟨o, e, c, d⟩ := id st'
    exact ⟨u, rfl, go_of (s := { s with heap := h' }) e c d (by decide) ⟨x, H, I1, ru, ⟨rfl, fun ys hy => by rw [I.tuple_inj hy hq]; exact hx⟩, st', fun b hb => (hf b hb).1⟩⟩
  done := by
    intro X hP hw hK hc i pins s σ H E I hf st hg
    subst hP hw hK
    obtain ⟨xs, hq, hx⟩ := hg
    obtain ⟨its, rv, p, hz⟩ := I.tuple hq
    obtain ⟨f0, f1, f2, f3, f4, f5⟩ := hf it (by simp)
    have hl := rv.length
    exact wpAny_pyNext_tuple_end (I.ok.hd hc) st (show s.heap.IsTuple a its.toArray from p) (by simp; omega) fun h' eb => ⟨rfl, I.turned (t' := s.toks) (fun b o hb e => eb b o hb e) f0 f1 f3 f4 f5⟩
  self := fun _ _ _ _ _ st h => wpAny_pyIter_tupleiter st h
theorem turn_range {P : Program} {w : World} {K : PySem.W.Frag} {tg : Expr} (it : Addr) (lo : Int) (n : Nat) : Turn P w K tg (Itr lo n) [it] it (fun i h => IsRangeIter h it (lo + (i : Nat) * 1) ((n : Int) - (i : Nat)) 1) where
  mem := by simp
  obj := fun i h st b hb => by
    have e : b = it := by simpa using hb
    subst e
    exact ⟨_, st, fun v z => by
      have z' : Data.fields _ = Data.cell v := z
      cases z'⟩
  keep := fun i h h' st k => k it (by simp) _ st
  item := by
    intro X hP hw hK hc i pins s σ H E I hf st hg
    subst hP hw hK
    obtain ⟨f0, f1, f2, f3, f4, f5⟩ := hf it (by simp)
    have W := Walks.range (prog := X.prog) (w := X.w) (I.ok.hd hc) it lo 1 n
    refine W.item i s _ _ hg st fun v h' tk hv st' kk => ?_
    obtain ⟨t, rfl⟩ := hv
    have I1 : Inv X pins σ H { s with heap := h', toks := tk } := I.turned (fun b o hb e => kk b o (by simpa using hb) e) f0 f1 f3 f4 f5
    refine ⟨_, rfl, go_of (s := { s with heap := h', toks := tk }) (n := "range_iterator") st' rfl rfl (by decide) ⟨.int (lo + i), H, I1, ⟨t, ?_⟩, ⟨rfl, rfl⟩, st', fun b hb => (hf b hb).1⟩⟩
    rw [Int.mul_one]
  done := by
    intro X hP hw hK hc i pins s σ H E I hf st hg
    subst hP hw hK
    obtain ⟨f0, f1, f2, f3, f4, f5⟩ := hf it (by simp)
    exact wpAny_pyNext_range_end (I.ok.hd hc) st (by have : n ≤ i := hg; omega) fun h' eb => ⟨rfl, I.turned (t' := s.toks) (fun b o hb e => eb b o hb e) f0 f1 f3 f4 f5⟩
  self := fun _ _ _ _ _ st h => wpAny_pyIter_rangeiter st h
end L2
namespace L2
open PySem PySem.Spec PyProof.Rows
section
variable {X : Cx} {tg : Expr}
def iList (K : PySem.W.Frag) (tl : TE) : TI := fun σ H R => tl σ H fun x H1 => ∃ a, x = .ref a ∧ (∃ xs, SqL K H1 a xs) ∧ R (Itl K a) H1
def iTup (K : PySem.W.Frag) (tl : TE) : TI := fun σ H R => tl σ H fun x H1 => ∃ a, x = .ref a ∧ (∃ xs, SqT K H1 a xs) ∧ R (Itt K a) H1
theorem pi_list {l : Expr} {tl : TE} (hl : PE X l tl) : PI X tg l (iList X.K tl) := by
  intro pins s σ H R I h
  refine thn (hl pins s σ H _ I h) fun v s1 ⟨x, H1, I1, r1, q1⟩ => ?_
  obtain ⟨a, e, ⟨xs, hq⟩, q⟩ := q1
  subst e
  cases r1
  obtain ⟨its, rv, p, hz⟩ := I1.list hq
  refine wpAny_pyIter_list p.isList ?_
  refine ⟨s1.heap.objs.size, [s1.heap.objs.size], _, _, H1, rfl, I1.kept (t' := s1.toks) fun b o e => Heap.get?_push_of_some _ e, turn_list a _, ⟨_, Heap.get?_push_size _ rfl, rfl, rfl⟩, fun b hb => ?_, q⟩
  have e : b = s1.heap.objs.size := by simpa using hb
  subst e
  exact I1.fpOk (Nat.le_refl _) (I1.hok.fresh (Nat.le_refl _))
theorem pi_tup {l : Expr} {tl : TE} (hl : PE X l tl) : PI X tg l (iTup X.K tl) := by
  intro pins s σ H R I h
  refine thn (hl pins s σ H _ I h) fun v s1 ⟨x, H1, I1, r1, q1⟩ => ?_
  obtain ⟨a, e, ⟨xs, hq⟩, q⟩ := q1
  subst e
  cases r1
  obtain ⟨its, rv, p, hz⟩ := I1.tuple hq
  refine wpAny_pyIter_tuple (show s1.heap.IsTuple a its.toArray from p) ?_
  refine ⟨s1.heap.objs.size, [s1.heap.objs.size], _, _, H1, rfl, I1.kept (t' := s1.toks) fun b o e => Heap.get?_push_of_some _ e, turn_tuple a _, ⟨_, Heap.get?_push_size _ rfl, rfl, rfl⟩, fun b hb => ?_, q⟩
  have e : b = s1.heap.objs.size := by simpa using hb
  subst e
  exact I1.fpOk (Nat.le_refl _) (I1.hok.fresh (Nat.le_refl _))
/-- a range object just made, walked -/
theorem range_it {pins : List (Addr × Obj)} {σ : St} {H : Hp} {s : Shared} {R : It → Hp → Prop} {E : Value → Shared → Prop} {lo hi : Int} {t u v : Tok} {tk : Nat} (I : Inv X pins σ H s) (h1 : -(2 ^ 62) ≤ lo) (h2 : lo < 2 ^ 62) (h3 : -(2 ^ 62) ≤ hi) (h4 : hi < 2 ^ 62)
    (q : R (Itr lo (hi - lo).toNat) H) : wpAny (model X.prog X.w) X.A (pyIter (.ref s.heap.objs.size)) (PIE X pins σ tg R) E { s with heap := s.heap.push { cls := .type "range", data := .fields #[.int lo t, .int hi u, .int 1 v] }, toks := tk } := by
  refine wpAny_pyIter_range (IsRange.new ..) (small_one h1 h2 h3 h4) ?_
  have I1 : Inv X pins σ H { s with heap := s.heap.push { cls := .type "range", data := .fields #[.int lo t, .int hi u, .int 1 v] }, toks := tk } := I.kept fun b o e => Heap.get?_push_of_some _ e
  refine ⟨(s.heap.push { cls := .type "range", data := .fields #[.int lo t, .int hi u, .int 1 v] }).objs.size, [(s.heap.push { cls := .type "range", data := .fields #[.int lo t, .int hi u, .int 1 v] }).objs.size], _, _, H, rfl,
    I1.kept (t' := tk) fun b o e => Heap.get?_push_of_some _ e, turn_range _ lo (hi - lo).toNat, ?_, fun b hb => ?_, q⟩
  · have e1 : lo + ((0 : Nat) : Int) * 1 = lo := by simp
    have e2 : (((hi - lo).toNat : Nat) : Int) - ((0 : Nat) : Int) = Builtin.Range.rangeSize lo hi 1 := by rw [rangeSize_one]; split <;> omega
    show IsRangeIter _ _ (lo + ((0 : Nat) : Int) * 1) ((((hi - lo).toNat : Nat) : Int) - ((0 : Nat) : Int)) 1
    rw [e1, e2]
    exact Heap.get?_push_size _ rfl
  · have e : b = (s.heap.push { cls := .type "range", data := .fields #[.int lo t, .int hi u, .int 1 v] }).objs.size := by simpa using hb
    subst e
    exact I1.fpOk (Nat.le_refl _) (I1.hok.fresh (Nat.le_refl _))
def iRng1 (ta : TA) : TI := fun σ H R => ta σ H fun vs H1 => ∃ j : Int, vs = [.int j] ∧ -(2 ^ 62) ≤ j ∧ j < 2 ^ 62 ∧ R (Itr 0 j.toNat) H1
def iRng2 (ta : TA) : TI := fun σ H R => ta σ H fun vs H1 => ∃ i j : Int, vs = [.int i, .int j] ∧ (-(2 ^ 62) ≤ i ∧ i < 2 ^ 62 ∧ -(2 ^ 62) ≤ j ∧ j < 2 ^ 62) ∧ R (Itr i (j - i).toNat) H1
theorem pi_range1 {a : Expr} {ta : TA} {p pos : Pos} (hg : Gl X "range") (hm : X.mg "range" = none) (ha : PA X [a] ta) (hs : starEach [a] X.env = [(false, eval a X.env)] := by rfl) : PI X tg (.Call (.Name "range" p) [a] [] pos) (iRng1 ta) := by
  intro pins s σ H R I h
  refine Call_ (ld_blt I hg hm boot_range (PyProof.Rows.callWith_type1 (thn (ha pos pins s σ H _ I h) fun us s1 ⟨vs, H1, I1, r1, q1⟩ => ?_) hs rfl))
  obtain ⟨j, e, q1, q2, q⟩ := q1
  subst e
  cases r1 with
  | cons r rr =>
    cases rr
    obtain ⟨t, rfl⟩ := r
    exact call_range_1 (range_it I1 (by omega) (by omega) q1 q2 (by simpa using q))
theorem pi_range2 {a b : Expr} {ta : TA} {p pos : Pos} (hg : Gl X "range") (hm : X.mg "range" = none) (ha : PA X [a, b] ta) (hs : starEach [a, b] X.env = [(false, eval a X.env), (false, eval b X.env)] := by rfl) (hs2 : starEach [b] X.env = [(false, eval b X.env)] := by rfl) :
    PI X tg (.Call (.Name "range" p) [a, b] [] pos) (iRng2 ta) := by
  intro pins s σ H R I h
  refine Call_ (ld_blt I hg hm boot_range (PyProof.Rows.callWith_type1 (thn (ha pos pins s σ H _ I h) fun us s1 ⟨vs, H1, I1, r1, q1⟩ => ?_) (by rw [hs, hs2]) (by rw [hs2]; rfl)))
  obtain ⟨i, j, e, ⟨q1, q2, q3, q4⟩, q⟩ := q1
  subst e
  cases r1 with
  | cons r rr =>
    cases rr with
    | cons r' rr =>
      cases rr
      obtain ⟨t, rfl⟩ := r
      obtain ⟨t', rfl⟩ := r'
      exact call_range_2 (range_it I1 q1 q2 q3 q4 q)
/-! ### for -/
/-- W: the invariant by the turn and a measure; N: what the body is to reach -/
def tFor (wi : TI) (g : TG) (tb : TS) : TS := fun D σ H => wi σ H fun J H1 => ∃ W : Nat → Nat → St → Hp → Prop, (∃ m, W 0 m σ H1) ∧ ∀ i m σ H, W i m σ H →
  (J.stop i H ∧ D.nx σ H) ∨ (J.go i H ∧ ∃ N : St → Hp → Prop, (∀ σ' H', N σ' H' → ∃ m', m' < m ∧ W (i + 1) m' σ' H') ∧ ∀ x H', J.yld i H x H' → g x σ H' fun σ2 H2 => tb { D with nx := N, ct := N, bk := D.nx } σ2 H2)
/-- the records at fp as they stand -/
def pinsAt (fp : List Addr) (h : Heap) : List (Addr × Obj) := fp.filterMap fun b => (h.get? b).map fun o => (b, o)
theorem mem_pinsAt {fp : List Addr} {h : Heap} {b : Addr} {o : Obj} (hb : b ∈ fp) (e : h.get? b = some o) : (b, o) ∈ pinsAt fp h := List.mem_filterMap.mpr ⟨b, hb, by rw [e]; rfl⟩
theorem of_pinsAt {fp : List Addr} {h : Heap} {p : Addr × Obj} (hp : p ∈ pinsAt fp h) : p.1 ∈ fp ∧ h.get? p.1 = some p.2 := by
  obtain ⟨b, hb, e⟩ := List.mem_filterMap.mp hp
  cases q : h.get? b with
  | none => rw [q] at e; cases e
  | some o =>
    rw [q] at e
    have e' : (b, o) = p := Option.some.inj e
    subst e'
    exact ⟨hb, q⟩
theorem Inv.pinned {pins : List (Addr × Obj)} {σ : St} {H : Hp} {s : Shared} {fp : List Addr} (I : Inv X pins σ H s) (hf : ∀ b ∈ fp, FpOk X pins H b) (ho : ∀ b ∈ fp, ∃ o, s.heap.get? b = some o ∧ ∀ v, o.data ≠ .cell v) : Inv X (pins ++ pinsAt fp s.heap) σ H s :=
  I.pins_of fun p hp => (List.mem_append.mp hp).elim (fun z => I.pin p (List.mem_append_right _ z)) fun z => by
    obtain ⟨hb, e⟩ := of_pinsAt z
    obtain ⟨f0, f1, f2, _⟩ := hf p.1 hb
    obtain ⟨o, e', d⟩ := ho p.1 hb
    rw [e] at e'; cases e'
    exact ⟨e, f0, f1, f2, d⟩
theorem Inv.unpinned {pins pl : List (Addr × Obj)} {σ : St} {H : Hp} {s : Shared} (I : Inv X (pins ++ pl) σ H s) : Inv X pins σ H s := I.pins_of fun p hp => I.pin p (List.mem_append_right _ (List.mem_append_left _ hp))
theorem ps_for {iter : Expr} {body : List Stmt} {wi : TI} {g : TG} {tb : TS} {pos : Pos} (hp : PassesOwn (model X.prog X.w) X.A X.env X.xe) (hc : X.calm = true) (hi : PI X tg iter wi) (hg : PG X tg g) (hb : PSs X body tb)
    (hs : ∀ x, foldedSetIterable iter X.env x = pure x := by intro _; rfl) : PS X (.For tg iter body [] pos) (tFor wi g tb) := by
  intro pins s σ H D I h
  refine wpAny_For (thn (hi pins s σ H _ I h) fun v s1 h1 => thn h1 fun itv s2 h2 => ?_) hs
  obtain ⟨it, fp, tn, J, H2, e, I2, T, st2, f2, W, ⟨m0, w0⟩, turn⟩ := h2
  subst e
  -- what stays true of the iterator's objects through the loop
  have stat : ∀ {H' : Hp}, (∀ b ∈ fp, H' b = none) → ∀ b ∈ fp, FpOk X pins H' b := fun hn b hb => ⟨hn b hb, (f2 b hb).2⟩
  refine codeAny_forLoop_any (fun n s' => ∃ i σ' H', Inv X pins σ' H' s' ∧ tn i s'.heap ∧ (∀ b ∈ fp, H' b = none) ∧ W i n σ' H') ?_ m0 ⟨0, σ, H2, I2, st2, fun b hb => (f2 b hb).1, w0⟩
  rintro n s3 ⟨i, σ3, H3, I3, st3, fr3, w3⟩
  rcases turn i n σ3 H3 w3 with ⟨stop, qn⟩ | ⟨go, N, hN, step⟩
  · refine wpAny_passesOwn hp (thn (T.done X rfl rfl rfl hc i pins s3 σ3 H3 X.xe I3 (stat fr3) st3 stop) fun r s4 ⟨hr, I4⟩ => ?_)
    subst hr
    exact wpAny_execs_nil ⟨σ3, H3, I4, qn⟩
  · refine wpAny_passesOwn hp (thn (T.item X rfl rfl rfl hc i pins s3 σ3 H3 X.xe I3 (stat fr3) st3 go) fun r s4 ⟨u, hr, h4⟩ => ?_)
    subst hr
    refine wpAny_passesOwn hp (thn h4 fun _ s5 ⟨x, H5, I5, r5, y5, st5, fr5⟩ => ?_)
    have I5' := I5.pinned (stat fr5) (T.obj _ _ st5)
    refine wpAny_passesOwn hp (thn (hg _ s5 σ3 H5 x u _ I5' r5 (step x H5 y5)) fun _ s6 ⟨σ6, H6, I6, q6⟩ => ?_)
    refine wpAny_passesOwn hp (thn (hb _ s6 σ6 H6 _ I6 q6) fun f s7 q7 => ?_)
    have again : ∀ {σ7 : St} {H7 : Hp}, Inv X (pins ++ pinsAt fp s5.heap) σ7 H7 s7 → N σ7 H7 → ∃ m, m < n ∧ ∃ i σ' H', Inv X pins σ' H' s7 ∧ tn i s7.heap ∧ (∀ b ∈ fp, H' b = none) ∧ W i m σ' H' := fun {σ7 H7} I7 n7 => by
      obtain ⟨m', hm, w7⟩ := hN σ7 H7 n7
      refine ⟨m', hm, i + 1, σ7, H7, I7.unpinned, T.keep _ _ _ st5 fun b hb o e => (I7.pin (b, o) (List.mem_append_right _ (List.mem_append_right _ (mem_pinsAt hb e)))).1, fun b hb => ?_, w7⟩
      obtain ⟨o, e, d⟩ := T.obj _ _ st5 b hb
      exact (I7.pin (b, o) (List.mem_append_right _ (List.mem_append_right _ (mem_pinsAt hb e)))).2.1
    cases f with
    | next => obtain ⟨σ7, H7, I7, n7⟩ := q7; exact again I7 n7
    | cont => obtain ⟨σ7, H7, I7, n7⟩ := q7; exact again I7 n7
    | brk => obtain ⟨σ7, H7, I7, q7⟩ := q7; exact ⟨σ7, H7, I7.unpinned, q7⟩
    | ret v => obtain ⟨x7, σ7, H7, I7, r7, q7⟩ := q7; exact ⟨x7, σ7, H7, I7.unpinned, r7, q7⟩
end
/-! ### the forms one uses -/
/-- over a list that the body leaves as it is -/
theorem for_list {K : PySem.W.Frag} {a : Addr} {xs : List V} {g : TG} {tb : TS} {D : Ends} {σ : St} {H : Hp} (Pv : Nat → St → Hp → Prop) (h0 : Pv 0 σ H) (hl : ∀ i σ H, i ≤ xs.length → Pv i σ H → SqL K H a xs)
    (hs : ∀ i x σ H, xs[i]? = some x → Pv i σ H → g x σ H fun σ2 H2 => tb { D with nx := Pv (i + 1), ct := Pv (i + 1), bk := D.nx } σ2 H2) (hd : ∀ σ H, Pv xs.length σ H → D.nx σ H) :
    ∃ W : Nat → Nat → St → Hp → Prop, (∃ m, W 0 m σ H) ∧ ∀ i m σ H, W i m σ H →
      ((Itl K a).stop i H ∧ D.nx σ H) ∨ ((Itl K a).go i H ∧ ∃ N : St → Hp → Prop, (∀ σ' H', N σ' H' → ∃ m', m' < m ∧ W (i + 1) m' σ' H') ∧ ∀ x H', (Itl K a).yld i H x H' → g x σ H' fun σ2 H2 => tb { D with nx := N, ct := N, bk := D.nx } σ2 H2) := by
  refine ⟨fun i m σ H => m = xs.length - i ∧ i ≤ xs.length ∧ Pv i σ H, ⟨xs.length, by simp, Nat.zero_le _, h0⟩, ?_⟩
  rintro i m σ H ⟨rfl, hi, p⟩
  have q := hl i σ H hi p
  by_cases hlt : i < xs.length
  · refine .inr ⟨⟨xs, xs[i], q, by simp [hlt]⟩, Pv (i + 1), fun σ' H' p' => ⟨xs.length - (i + 1), by omega, rfl, hlt, p'⟩, fun x H' y => ?_⟩
    obtain ⟨e, y⟩ := y
    subst e
    exact hs i x σ _ (y xs q) p
  · have e : i = xs.length := by omega
    subst e
    exact .inl ⟨⟨xs, q, Nat.le_refl _⟩, hd σ H p⟩
theorem for_tup {K : PySem.W.Frag} {a : Addr} {xs : List V} {g : TG} {tb : TS} {D : Ends} {σ : St} {H : Hp} (Pv : Nat → St → Hp → Prop) (h0 : Pv 0 σ H) (hl : ∀ i σ H, i ≤ xs.length → Pv i σ H → SqT K H a xs)
    (hs : ∀ i x σ H, xs[i]? = some x → Pv i σ H → g x σ H fun σ2 H2 => tb { D with nx := Pv (i + 1), ct := Pv (i + 1), bk := D.nx } σ2 H2) (hd : ∀ σ H, Pv xs.length σ H → D.nx σ H) :
    ∃ W : Nat → Nat → St → Hp → Prop, (∃ m, W 0 m σ H) ∧ ∀ i m σ H, W i m σ H →
      ((Itt K a).stop i H ∧ D.nx σ H) ∨ ((Itt K a).go i H ∧ ∃ N : St → Hp → Prop, (∀ σ' H', N σ' H' → ∃ m', m' < m ∧ W (i + 1) m' σ' H') ∧ ∀ x H', (Itt K a).yld i H x H' → g x σ H' fun σ2 H2 => tb { D with nx := N, ct := N, bk := D.nx } σ2 H2) := by
  refine ⟨fun i m σ H => m = xs.length - i ∧ i ≤ xs.length ∧ Pv i σ H, ⟨xs.length, by simp, Nat.zero_le _, h0⟩, ?_⟩
  rintro i m σ H ⟨rfl, hi, p⟩
  have q := hl i σ H hi p
  by_cases hlt : i < xs.length
  · refine .inr ⟨⟨xs, xs[i], q, by simp [hlt]⟩, Pv (i + 1), fun σ' H' p' => ⟨xs.length - (i + 1), by omega, rfl, hlt, p'⟩, fun x H' y => ?_⟩
    obtain ⟨e, y⟩ := y
    subst e
    exact hs i x σ _ (y xs q) p
  · have e : i = xs.length := by omega
    subst e
    exact .inl ⟨⟨xs, q, Nat.le_refl _⟩, hd σ H p⟩
theorem for_range {lo : Int} {n : Nat} {g : TG} {tb : TS} {D : Ends} {σ : St} {H : Hp} (Pv : Nat → St → Hp → Prop) (h0 : Pv 0 σ H)
    (hs : ∀ i σ H, i < n → Pv i σ H → g (.int (lo + i)) σ H fun σ2 H2 => tb { D with nx := Pv (i + 1), ct := Pv (i + 1), bk := D.nx } σ2 H2) (hd : ∀ σ H, Pv n σ H → D.nx σ H) :
    ∃ W : Nat → Nat → St → Hp → Prop, (∃ m, W 0 m σ H) ∧ ∀ i m σ H, W i m σ H →
      ((Itr lo n).stop i H ∧ D.nx σ H) ∨ ((Itr lo n).go i H ∧ ∃ N : St → Hp → Prop, (∀ σ' H', N σ' H' → ∃ m', m' < m ∧ W (i + 1) m' σ' H') ∧ ∀ x H', (Itr lo n).yld i H x H' → g x σ H' fun σ2 H2 => tb { D with nx := N, ct := N, bk := D.nx } σ2 H2) := by
  refine ⟨fun i m σ H => m = n - i ∧ i ≤ n ∧ Pv i σ H, ⟨n, by simp, Nat.zero_le _, h0⟩, ?_⟩
  rintro i m σ H ⟨rfl, hi, p⟩
  by_cases hlt : i < n
  · refine .inr ⟨hlt, Pv (i + 1), fun σ' H' p' => ⟨n - (i + 1), by omega, rfl, hlt, p'⟩, fun x H' y => ?_⟩
    obtain ⟨e, y⟩ := y
    subst e y
    exact hs i σ _ hlt p
  · have e : i = n := by omega
    subst e
    exact .inl ⟨Nat.le_refl _, hd σ H p⟩
end L2
namespace L2
open PySem PySem.Spec PyProof.Rows
abbrev R2 := V → V → Hp → VK → Prop
/-- a two-place operation on values: f is binaryOp op, inplaceOp op or compareOp op -/
def OpR (X : Cx) (f : Value → Value → Sem Value) (r : R2) : Prop :=
  ∀ (pins : List (Addr × Obj)) (s : Shared) (σ : St) (H : Hp) (x y : V) (v u : Value) (Q : VK), Inv X pins σ H s → RelV x v → RelV y u → r x y H Q →
    wpAny (model X.prog X.w) X.A (f v u) (EP X pins σ Q) X.xe s
/-- a one-place operation -/
def UnR (X : Cx) (f : Value → Sem Value) (r : V → Hp → VK → Prop) : Prop :=
  ∀ (pins : List (Addr × Obj)) (s : Shared) (σ : St) (H : Hp) (x : V) (v : Value) (Q : VK), Inv X pins σ H s → RelV x v → r x H Q →
    wpAny (model X.prog X.w) X.A (f v) (EP X pins σ Q) X.xe s
/-- a call of a value that is known (a builtin, a type) with values -/
def CallR (X : Cx) (f : Value) (r : List V → Hp → VK → Prop) : Prop :=
  ∀ (pins : List (Addr × Obj)) (s : Shared) (σ : St) (H : Hp) (xs : List V) (us : List Value) (Q : VK), Inv X pins σ H s → Vals xs us → r xs H Q →
    wpAny (model X.prog X.w) X.A (call f us) (EP X pins σ Q) X.xe s
def tOp (r : R2) (ta tb : TE) : TE := fun σ H Q => ta σ H fun x H1 => tb σ H1 fun y H2 => r x y H2 Q
def tUn (r : V → Hp → VK → Prop) (ta : TE) : TE := fun σ H Q => ta σ H fun x H1 => r x H1 Q
/-- ints in, under C, and a value out -/
def rI (C : Int → Int → Prop) (g : Int → Int → V) : R2 := fun x y H Q => ∃ i j, x = .int i ∧ y = .int j ∧ C i j ∧ Q (g i j) H
def rI0 (g : Int → Int → V) : R2 := fun x y H Q => ∃ i j, x = .int i ∧ y = .int j ∧ Q (g i j) H
def rU (g : Int → V) : V → Hp → VK → Prop := fun x H Q => ∃ i, x = .int i ∧ Q (g i) H
section
variable {X : Cx} {a b c : Expr} {ta tb tc : TE} {pos : Pos}
theorem binT (ha : PE X a ta) (hb : PE X b tb) {pins : List (Addr × Obj)} {s : Shared} {σ : St} {H : Hp} {R : V → V → Hp → Prop} (I : Inv X pins σ H s)
    (h : ta σ H fun x H1 => tb σ H1 fun y H2 => R x y H2) {Q : Value → Shared → Prop} {f : Value → Value → Sem Value}
    (hf : ∀ v u s2 x y H2, Inv X pins σ H2 s2 → RelV x v → RelV y u → R x y H2 → wpAny (model X.prog X.w) X.A (f v u) Q X.xe s2) :
    wpAny (model X.prog X.w) X.A (eval a X.env) (fun v s₁ => wpAny (model X.prog X.w) X.A (eval b X.env) (fun u s₂ => wpAny (model X.prog X.w) X.A (f v u) Q X.xe s₂) X.xe s₁) X.xe s := by
  refine thn (ha pins s σ H _ I h) fun v s1 ⟨x, H1, I1, r1, q1⟩ => ?_
  refine thn (hb pins s1 σ H1 _ I1 q1) fun u s2 ⟨y, H2, I2, r2, q2⟩ => ?_
  exact hf v u s2 x y H2 I2 r1 r2 q2
theorem pe_op {op : Operator} {r : R2} (ho : OpR X (binaryOp op) r) (ha : PE X a ta) (hb : PE X b tb) : PE X (.BinOp a op b pos) (tOp r ta tb) := by
  intro pins s σ H Q I h
  exact wpAny_BinOp (binT ha hb I h fun v u s2 x y H2 I2 rx ry q => ho pins s2 σ H2 x y v u Q I2 rx ry q)
theorem pe_un {op : UnaryOp} {r : V → Hp → VK → Prop} (ho : UnR X (unaryOp op) r) (ha : PE X a ta) : PE X (.UnaryOp op a pos) (tUn r ta) := by
  intro pins s σ H Q I h
  exact UnaryOp_ (thn (ha pins s σ H _ I h) fun v s1 ⟨x, H1, I1, r1, q1⟩ => ho pins s1 σ H1 x v Q I1 r1 q1)
/-! ### ints -/
theorem opI {f : Value → Value → Sem Value} {C : Int → Int → Prop} {g : Int → Int → Int}
    (rule : ∀ (i j : Int) (t u : Tok) (s : Shared) (Q : Value → Shared → Prop) (E : Value → Shared → Prop), C i j → Q (.int (g i j) s.toks) { s with toks := s.toks + 1 } → wpAny (model X.prog X.w) X.A (f (.int i t) (.int j u)) Q E s) :
    OpR X f (rI C fun i j => .int (g i j)) := by
  intro pins s σ H x y v u Q I rx ry h
  obtain ⟨i, j, rfl, rfl, hc, q⟩ := h
  obtain ⟨t, rfl⟩ := rx
  obtain ⟨t', rfl⟩ := ry
  exact rule i j t t' s _ _ hc ⟨.int (g i j), H, I.tok _, ⟨_, rfl⟩, q⟩
theorem opI0 {f : Value → Value → Sem Value} {g : Int → Int → Int}
    (rule : ∀ (i j : Int) (t u : Tok) (s : Shared) (Q : Value → Shared → Prop) (E : Value → Shared → Prop), Q (.int (g i j) s.toks) { s with toks := s.toks + 1 } → wpAny (model X.prog X.w) X.A (f (.int i t) (.int j u)) Q E s) :
    OpR X f (rI0 fun i j => .int (g i j)) := by
  intro pins s σ H x y v u Q I rx ry h
  obtain ⟨i, j, rfl, rfl, q⟩ := h
  obtain ⟨t, rfl⟩ := rx
  obtain ⟨t', rfl⟩ := ry
  exact rule i j t t' s _ _ ⟨.int (g i j), H, I.tok _, ⟨_, rfl⟩, q⟩
theorem opB0 {f : Value → Value → Sem Value} {g : Int → Int → Bool}
    (rule : ∀ (i j : Int) (t u : Tok) (s : Shared) (Q : Value → Shared → Prop) (E : Value → Shared → Prop), Q (.bool (g i j)) s → wpAny (model X.prog X.w) X.A (f (.int i t) (.int j u)) Q E s) :
    OpR X f (rI0 fun i j => .bl (g i j)) := by
  intro pins s σ H x y v u Q I rx ry h
  obtain ⟨i, j, rfl, rfl, q⟩ := h
  obtain ⟨t, rfl⟩ := rx
  obtain ⟨t', rfl⟩ := ry
  exact rule i j t t' s _ _ ⟨.bl (g i j), H, I, rfl, q⟩
def CPow (i j : Int) : Prop := 0 ≤ j ∧ j ≤ 1000000 ∧ i.natAbs < 2 ^ 64
theorem op_add : OpR X (binaryOp .Add) (rI0 fun i j => .int (i + j)) := opI0 fun _ _ _ _ _ _ _ q => add_int q
theorem op_sub : OpR X (binaryOp .Sub) (rI0 fun i j => .int (i - j)) := opI0 fun _ _ _ _ _ _ _ q => sub_int q
/-- % by a positive divisor of any size -/
theorem op_mod : OpR X (binaryOp .Mod) (rI (fun _ j => 0 < j) fun i j => .int (i % j)) := opI fun i j _ _ _ _ _ hc q => by
  have h1 : (0 : Int) < j := hc
  exact mod_int' (by omega) (by rw [Int.fmod_eq_emod_of_nonneg i (by omega)]; exact q)
theorem op_pow : OpR X (binaryOp .Pow) (rI CPow fun i j => .int (i ^ j.toNat)) := opI fun _ _ _ _ _ _ _ hc q => pow_int_small hc.1 hc.2.1 hc.2.2 q
theorem unI {f : Value → Sem Value} {g : Int → Int}
    (rule : ∀ (i : Int) (t : Tok) (s : Shared) (Q : Value → Shared → Prop) (E : Value → Shared → Prop), Q (.int (g i) s.toks) { s with toks := s.toks + 1 } → wpAny (model X.prog X.w) X.A (f (.int i t)) Q E s) :
    UnR X f (rU fun i => .int (g i)) := by
  intro pins s σ H x v Q I rx h
  obtain ⟨i, rfl, q⟩ := h
  obtain ⟨t, rfl⟩ := rx
  exact rule i t s _ _ ⟨.int (g i), H, I.tok _, ⟨_, rfl⟩, q⟩
theorem un_neg : UnR X (unaryOp .USub) (rU fun i => .int (-i)) := unI fun _ _ _ _ _ q => neg_int q
end
/-! ### comparisons -/
/-- the scalars that == tells apart as data does -/
def scal : V → V → Bool
  | .non, .non => true | .non, .int _ => true | .int _, .non => true | .non, .bl _ => true | .bl _, .non => true | .non, .str _ => true | .str _, .non => true
  | .int _, .int _ => true | .bl _, .bl _ => true | .str _, .str _ => true | .byt _, .byt _ => true
  | .int _, .str _ => true | .str _, .int _ => true | .bl _, .str _ => true | .str _, .bl _ => true
  | _, _ => false
def rEq : R2 := fun x y H Q => scal x y = true ∧ Q (.bl (decide (x = y))) H
def rNe : R2 := fun x y H Q => scal x y = true ∧ Q (.bl (!decide (x = y))) H
theorem dec_int {i j : Int} : decide (V.int i = V.int j) = (i == j) := by
  rw [Bool.eq_iff_iff]
  simp
theorem dec_bl {i j : Bool} : decide (V.bl i = V.bl j) = (i == j) := by
  rw [Bool.eq_iff_iff]
  simp
theorem dec_str {i j : Str} : decide (V.str i = V.str j) = (i == j) := by
  rw [Bool.eq_iff_iff]
  simp
theorem dec_byt {i j : Array UInt8} : decide (V.byt i = V.byt j) = (i.toList == j.toList) := by
  rw [Bool.eq_iff_iff]
  cases i
  cases j
  simp
section
variable {X : Cx} {a b c : Expr} {ta tb tc : TE} {pos : Pos}
theorem fin_bl {pins : List (Addr × Obj)} {σ : St} {H : Hp} {s : Shared} {Q : VK} {k k' : Bool} (I : Inv X pins σ H s) (q : Q (.bl k) H) (e : k = k') : EP X pins σ Q (.bool k') s := by
  subst e
  exact ⟨.bl k, H, I, rfl, q⟩
theorem op_eq : OpR X (compareOp .Eq) rEq := by
  intro pins s σ H x y v u Q I rx ry h
  obtain ⟨hs, q⟩ := h
  cases x with
  | non =>
    cases rx
    cases y with
    | non => cases ry; exact PySem.EqNone.eq_none_none (fin_bl I q (by simp))
    | bl j => cases ry; exact PySem.EqNone.eq_none_bool (fin_bl I q (by simp))
    | int j => obtain ⟨t', rfl⟩ := ry; exact PySem.EqNone.eq_none_int (fin_bl I q (by simp))
    | str j => obtain ⟨t', rfl⟩ := ry; exact PySem.EqNone.eq_none_str (fin_bl I q (by simp))
    | _ => exact absurd (show false = true from hs) Bool.false_ne_true
  | bl i =>
    cases rx
    cases y with
    | non => cases ry; exact PySem.EqNone.eq_bool_none (fin_bl I q (by simp))
    | bl j => cases ry; exact eq_bool (fin_bl I q dec_bl)
    | str j => obtain ⟨t', rfl⟩ := ry; exact PySem.EqMixed.eq_bool_str (fin_bl I q (by simp))
    | _ => exact absurd (show false = true from hs) Bool.false_ne_true
  | int i =>
    obtain ⟨t, rfl⟩ := rx
    cases y with
    | non => cases ry; exact PySem.EqNone.eq_int_none (fin_bl I q (by simp))
    | int j => obtain ⟨t', rfl⟩ := ry; exact eq_int (fin_bl I q dec_int)
    | str j => obtain ⟨t', rfl⟩ := ry; exact PySem.EqMixed.eq_int_str (fin_bl I q (by simp))
    | _ => exact absurd (show false = true from hs) Bool.false_ne_true
  | str i =>
    obtain ⟨t, rfl⟩ := rx
    cases y with
    | non => cases ry; exact PySem.EqNone.eq_str_none (fin_bl I q (by simp))
    | bl j => cases ry; exact PySem.EqMixed.eq_str_bool (fin_bl I q (by simp))
    | int j => obtain ⟨t', rfl⟩ := ry; exact PySem.EqMixed.eq_str_int (fin_bl I q (by simp))
    | str j => obtain ⟨t', rfl⟩ := ry; exact eq_str (fin_bl I q dec_str)
    | _ => exact absurd (show false = true from hs) Bool.false_ne_true
  | byt i =>
    obtain ⟨t, rfl⟩ := rx
    cases y with
    | byt j => obtain ⟨t', rfl⟩ := ry; exact PySem.W.eq_bytes (fin_bl I q dec_byt)
    | _ => exact absurd (show false = true from hs) Bool.false_ne_true
  | _ => cases y <;> exact absurd (show false = true from hs) Bool.false_ne_true
theorem op_ne : OpR X (compareOp .NotEq) rNe := by
  intro pins s σ H x y v u Q I rx ry h
  obtain ⟨hs, q⟩ := h
  cases x with
  | non =>
    cases rx
    cases y with
    | non => cases ry; exact PySem.EqNone.ne_none_none (fin_bl I q (by simp))
    | bl j => cases ry; exact PySem.EqNone.ne_none_bool (fin_bl I q (by simp))
    | int j => obtain ⟨t', rfl⟩ := ry; exact PySem.EqNone.ne_none_int (fin_bl I q (by simp))
    | str j => obtain ⟨t', rfl⟩ := ry; exact PySem.EqNone.ne_none_str (fin_bl I q (by simp))
    | _ => exact absurd (show false = true from hs) Bool.false_ne_true
  | bl i =>
    cases rx
    cases y with
    | non => cases ry; exact PySem.EqNone.ne_bool_none (fin_bl I q (by simp))
    | bl j => cases ry; exact ne_bool (fin_bl I q (congrArg not dec_bl))
    | str j => obtain ⟨t', rfl⟩ := ry; exact PySem.EqMixed.ne_bool_str (fin_bl I q (by simp))
    | _ => exact absurd (show false = true from hs) Bool.false_ne_true
  | int i =>
    obtain ⟨t, rfl⟩ := rx
    cases y with
    | non => cases ry; exact PySem.EqNone.ne_int_none (fin_bl I q (by simp))
    | int j => obtain ⟨t', rfl⟩ := ry; exact ne_int (fin_bl I q (congrArg not dec_int))
    | str j => obtain ⟨t', rfl⟩ := ry; exact PySem.EqMixed.ne_int_str (fin_bl I q (by simp))
    | _ => exact absurd (show false = true from hs) Bool.false_ne_true
  | str i =>
    obtain ⟨t, rfl⟩ := rx
    cases y with
    | non => cases ry; exact PySem.EqNone.ne_str_none (fin_bl I q (by simp))
    | bl j => cases ry; exact PySem.EqMixed.ne_str_bool (fin_bl I q (by simp))
    | int j => obtain ⟨t', rfl⟩ := ry; exact PySem.EqMixed.ne_str_int (fin_bl I q (by simp))
    | str j => obtain ⟨t', rfl⟩ := ry; exact ne_str (fin_bl I q (congrArg not dec_str))
    | _ => exact absurd (show false = true from hs) Bool.false_ne_true
  | byt i =>
    obtain ⟨t, rfl⟩ := rx
    cases y with
    | byt j => obtain ⟨t', rfl⟩ := ry; exact PySem.W.ne_bytes (fin_bl I q (congrArg not dec_byt))
    | _ => exact absurd (show false = true from hs) Bool.false_ne_true
  | _ => cases y <;> exact absurd (show false = true from hs) Bool.false_ne_true
theorem op_lt : OpR X (compareOp .Lt) (rI0 fun i j => .bl (decide (i < j))) := opB0 fun _ _ _ _ _ _ _ q => lt_int q
theorem op_gt : OpR X (compareOp .Gt) (rI0 fun i j => .bl (decide (j < i))) := opB0 fun _ _ _ _ _ _ _ q => gt_int q
theorem op_ge : OpR X (compareOp .GtE) (rI0 fun i j => .bl (decide (j ≤ i))) := opB0 fun _ _ _ _ _ _ _ q => ge_int q
theorem op_notN : OpR X (compareOp .IsNot) (fun x y H Q => y = .non ∧ Q (.bl (!decide (x = .non))) H) := by
  intro pins s σ H x y v u Q I rx ry h
  obtain ⟨rfl, q⟩ := h
  cases ry
  refine isnot_none_gen (fin_bl I q ?_)
  cases x <;> first
    | (cases rx; rfl)
    | (obtain ⟨t, rfl⟩ := rx; rfl)
theorem nomark (b : Expr) {op : CmpOp} (h : op ≠ .In := by decide) (h2 : op ≠ .NotIn := by decide) : behindInMarks op b = false := by
  have e1 : (op == CmpOp.In) = false := by cases op <;> first | rfl | exact absurd rfl h
  have e2 : (op == CmpOp.NotIn) = false := by cases op <;> first | rfl | exact absurd rfl h2
  cases b <;> simp [behindInMarks, e1, e2]
/-- a comparison as a value; hm: nomark b, or (for in, not in) by with_unfolding_all rfl -/
theorem pe_cmpR {op : CmpOp} {r : R2} (ho : OpR X (compareOp op) r) (ha : PE X a ta) (hb : PE X b tb) (hm : behindInMarks op b = false) : PE X (.Compare a [op] [b] pos) (tOp r ta tb) := by
  intro pins s σ H Q I h
  exact wpAny_Compare1 (binT ha hb I h fun v u s2 x y H2 I2 rx ry q => ho pins s2 σ H2 x y v u Q I2 rx ry q) hm
/-- a reading of a value as a test -/
def tTest (t : TE) : TT := fun σ H Q => t σ H fun x H' => ∃ k, x = .bl k ∧ Q k H'
theorem pt_cmpR {op : CmpOp} {r : R2} (ho : OpR X (compareOp op) r) (ha : PE X a ta) (hb : PE X b tb) (hm : behindInMarks op b = false) : PT X (.Compare a [op] [b] pos) (tTest (tOp r ta tb)) := by
  intro pins s σ H Q I h
  refine wpAny_isTrue_Compare1 (thn (ha pins s σ H _ I h) fun v s1 ⟨x, H1, I1, r1, q1⟩ => thn (hb pins s1 σ H1 _ I1 q1) fun u s2 ⟨y, H2, I2, r2, q2⟩ =>
    thn (ho pins s2 σ H2 x y v u _ I2 r1 r2 q2) fun c s3 ⟨z, H3, I3, r3, k, e, q3⟩ => ?_) hm
  subst e
  cases r3
  exact wpAny_truthy_bool ⟨H3, I3, q3⟩
theorem line63 : (sizeLine : Nat) < 2 ^ 63 := by rw [sizeLine_eq]; decide
/-! ### scalar builtins, by CallR -/
theorem vals1 {x : V} {us : List Value} (r : Vals [x] us) : ∃ u, us = [u] ∧ RelV x u := by
  cases r with
  | cons r1 r2 => cases r2; exact ⟨_, rfl, r1⟩
theorem call_abs : CallR X (.builtin "abs") (fun xs H Q => ∃ i, xs = [.int i] ∧ Q (.int (if i < 0 then -i else i)) H) := by
  intro pins s σ H xs us Q I r h
  obtain ⟨i, rfl, q⟩ := h
  obtain ⟨u, rfl, t, rfl⟩ := vals1 r
  exact call_abs_int fun u tk => ⟨.int (if i < 0 then -i else i), H, I.tok _, ⟨_, rfl⟩, q⟩
/-- len of a str, a bytes, a list, a tuple -/
def LenV (K : PySem.W.Frag) (x : V) (H : Hp) (n : Nat) : Prop :=
  match x with
  | .str y => y.length ≤ sizeLine ∧ n = y.length
  | .byt y => y.size ≤ sizeLine ∧ n = y.size
  | .ref p => (∃ xs, SqL K H p xs ∧ n = xs.length) ∨ ∃ xs, SqT K H p xs ∧ n = xs.length
  | _ => False
theorem call_len : CallR X (.builtin "len") (fun xs H Q => ∃ x n, xs = [x] ∧ LenV X.K x H n ∧ Q (.int n) H) := by
  intro pins s σ H xs us Q I r h
  obtain ⟨x, n, rfl, e, q⟩ := h
  obtain ⟨u, rfl, rx⟩ := vals1 r
  have hl := line63
  have hs : sizeLine = 16777216 := sizeLine_eq
  cases x with
  | str y =>
    obtain ⟨t, rfl⟩ := rx
    obtain ⟨hy, e'⟩ : y.length ≤ sizeLine ∧ n = y.length := e
    subst e'
    exact len_str (by omega) ⟨.int _, H, I.tok _, ⟨_, rfl⟩, q⟩
  | byt y =>
    obtain ⟨t, rfl⟩ := rx
    obtain ⟨hy, e'⟩ : y.size ≤ sizeLine ∧ n = y.size := e
    subst e'
    exact PySem.W.len_bytes (by omega) ⟨.int _, H, I.tok _, ⟨_, rfl⟩, q⟩
  | ref p =>
    cases rx
    have e' : (∃ xs, SqL X.K H p xs ∧ n = xs.length) ∨ ∃ xs, SqT X.K H p xs ∧ n = xs.length := e
    rcases e' with ⟨xs, hx, e'⟩ | ⟨xs, hx, e'⟩
    · subst e'
      obtain ⟨its, r', pl, hz⟩ := I.list hx
      have hlen := r'.length
      exact Calls.call_len_list pl.isList (by simp only [List.size_toArray]; omega) ⟨.int xs.length, H, I.tok _, ⟨_, by simp only [List.size_toArray]; rw [hlen]⟩, q⟩
    · subst e'
      obtain ⟨its, r', pl, hz⟩ := I.tuple hx
      have hlen := r'.length
      exact len_tuple pl (by simp only [List.size_toArray]; omega) ⟨.int xs.length, H, I.tok _, ⟨_, by simp only [List.size_toArray]; rw [hlen]⟩, q⟩
  | _ => exact (show False from e).elim
end
end L2
namespace L2
open PySem PySem.Spec PyProof.Rows
section
variable {prog : Program} {w : World} {A : Around} {E : Value → Shared → Prop} {s : Shared} {K : PySem.W.Frag} {x dx C f : Addr} {mA : Str → Option Value} {name : Str} {v : Value}
end
section
variable {P : Program} {w : World} {H H' : Hp} {h h' : Heap} {a C dx : Addr} {fs fs' : List (Str × V)}
end
section
variable {X : Cx} {pins : List (Addr × Obj)} {σ : St} {H : Hp} {s : Shared} {a C dx : Addr} {fs : List (Str × V)} {f : Str} {v : V} {A : Around} {E : Value → Shared → Prop}
end
section
variable {X : Cx} {o e value : Expr} {f : Str} {pos pos' tpos : Pos} {ta tv : TE}
end
/-! ### isinstance -/
section
variable {X : Cx} {pins : List (Addr × Obj)} {σ : St} {H : Hp} {s : Shared} {A : Around} {E : Value → Shared → Prop} {Q : Value → Shared → Prop} {c : Value} {b : Bool}
end
end L2
namespace L2
open PySem PySem.Spec PyProof.Rows
/-! ### room -/
structure Room (k : Nat) (A : Around) : Prop where
  hd : A.handled = none
  dp : A.depth + 3 * k + 5 < recursionLimit
  un : A.units + 16 * k + 200 < cLine
  gd : A.guards = some []
theorem Room.mono {j k : Nat} {A : Around} (r : Room k A) (h : j ≤ k) : Room j A := ⟨r.hd, by have := r.dp; omega, by have := r.un; omega, r.gd⟩
theorem Room.deeper {k : Nat} {A : Around} (r : Room (k + 1) A) (env : Env) : Room k (A.deeper env) :=
  ⟨r.hd, by have := r.dp; show A.depth + 1 + 3 * k + 5 < _; omega, by have := r.un; show A.units + 3 + 16 * k + 200 < _; omega, r.gd⟩
theorem Room.depth {k : Nat} {A : Around} (r : Room k A) : A.depth < recursionLimit := by have := r.dp; omega
theorem Room.units {k : Nat} {A : Around} (r : Room k A) : A.units + 64 < cLine := by have := r.un; omega
/-! ### argument lists and displays -/
def tNil : TA := fun _ H Q => Q [] H
def tCons (ta : TE) (tr : TA) : TA := fun σ H Q => ta σ H fun x H1 => tr σ H1 fun xs H2 => Q (x :: xs) H2
section
variable {X : Cx} {e : Expr} {es : List Expr} {te : TE} {t : TA} {pos : Pos}
theorem pa_nil : PA X [] tNil := fun _ _ _ _ H Q I h => Calls.spliced_nil ⟨[], H, I, .nil, h⟩
theorem pa_cons (ha : PE X e te) (hr : PA X es t) (hs : starEach (e :: es) X.env = (false, eval e X.env) :: starEach es X.env := by rfl) : PA X (e :: es) (tCons te t) := by
  intro pos pins s σ H Q I h
  rw [hs]
  show wpAny _ _ (spliced ((false, eval e X.env) :: backTo pos (starEach es X.env))) _ _ s
  refine Calls.spliced_cons (thn (ha pins s σ H _ I h) fun u s1 ⟨x, H1, I1, r1, q1⟩ => ?_)
  exact thn (hr pos pins s1 σ H1 _ I1 q1) fun us s2 ⟨xs, H2, I2, r2, q2⟩ => ⟨x :: xs, H2, I2, .cons r1 r2, q2⟩
/-- a tuple, a list of written items -/
def tTup (t : TA) : TE := fun σ H Q => t σ H fun xs H1 => xs.length ≤ sizeLine ∧ ∀ p, H1 p = none → Q (.ref p) (upd H1 p (.tup xs))
def tLst (t : TA) : TE := fun σ H Q => t σ H fun xs H1 => xs.length ≤ sizeLine ∧ ∀ p, H1 p = none → Q (.ref p) (upd H1 p (.lst xs))
theorem pe_tup {x1} (h : PA X es t) : PE X (.Tuple es x1 pos) (tTup t) := by
  intro pins s σ H Q I hq
  refine wpAny_Tuple_spliced (thn (h pos pins s σ H _ I hq) fun us s1 ⟨xs, H1, I1, r, z, q⟩ => ⟨by rw [← r.length]; exact z, ?_⟩)
  have hf : H1 s1.heap.objs.size = none := I1.hok.fresh (Nat.le_refl _)
  refine ⟨.ref s1.heap.objs.size, upd H1 s1.heap.objs.size (.tup xs), I1.laid (t' := s1.toks) (fun b u e => Heap.get?_push_of_some _ e) (Nat.le_refl _) ?_, rfl, q _ hf⟩
  exact ⟨⟨z, _, Heap.get?_push_size _ rfl, rfl⟩, us, r, ⟨_, Heap.get?_push_size _ rfl, rfl, _, rfl⟩⟩
theorem pe_lst (h : PA X es t) : PE X (.List es pos) (tLst t) := by
  intro pins s σ H Q I hq
  refine wpAny_List_spliced (thn (h pos pins s σ H _ I hq) fun us s1 ⟨xs, H1, I1, r, z, q⟩ => ⟨by rw [← r.length]; exact z, ?_⟩)
  have hf : H1 s1.heap.objs.size = none := I1.hok.fresh (Nat.le_refl _)
  refine ⟨.ref s1.heap.objs.size, upd H1 s1.heap.objs.size (.lst xs), I1.laid (t' := s1.toks) (fun b u e => Heap.get?_push_of_some _ e) (Nat.le_refl _) ?_, rfl, q _ hf⟩
  exact ⟨z, us, 0, r, Heap.get?_push_size _ rfl⟩
end
/-! ### what a def promises -/
/-- a def's promise: the bound arguments in the parameters' order, the heap, the wanted end, the wanted exception -/
abbrev Sp := List V → Hp → VK → XK → Prop
/-- how an exception lies behind a call (file 08 gives it): the callers' frames, abstract heap and state ahead of the call, the wish, the exception, the state -/
abbrev CXT := List Env → Hp → Shared → XK → Value → Shared → Prop
/-- the state at a call -/
structure Env0 (P : Program) (w : World) (K : PySem.W.Frag) (mg : Str → Option Value) (base : Heap) (A : Around) (outer : List Env) (s : Shared) (H : Hp) : Prop where
  frames : A.frames = some outer
  mod : Mod K mg base
  bs : ∀ b o, base.get? b = some o → s.heap.get? b = some o ∧ H b = none
  bsz : base.objs.size ≤ s.heap.objs.size
  funs : s.heap.FunFrames base outer
  frf : ∀ b ∈ frs outer, H b = none
  hok : HOk P w H s.heap
  bare : AllBare s.gens
/-- a call's end -/
def CE (outer : List Env) (P : Program) (w : World) (H : Hp) (s : Shared) (Q : VK) (u : Value) (s' : Shared) : Prop :=
  ∃ v H', s'.os = s.os ∧ AllBare s'.gens ∧ Un (frs outer) [] H H' s.heap s'.heap ∧ HOk P w H' s'.heap ∧ RelV v u ∧ Q v H'
def CR (CX : CXT) (outer : List Env) (P : Program) (w : World) (H : Hp) (s : Shared) (Q : VK) (E : XK) (r : Result) (s' : Shared) : Prop :=
  match r with
  | .ok (.ret u) => CE outer P w H s Q u s'
  | .ok _ => False
  | .error e => CX outer H s E e s'
structure FnOk (P : Program) (w : World) (K : PySem.W.Frag) (mg : Str → Option Value) (base : Heap) (CX : CXT) (k : Nat) (f : Addr) (fd : FuncData) (ps : List Str) (sp : Sp) : Prop where
  len : ∀ vs H Q E, sp vs H Q E → vs.length = ps.length
  run : ∀ (A : Around) (outer : List Env) (s : Shared) (H : Hp) (args : Args) (us : List Value) (vs : List V) (Q : VK) (E : XK), Room k A → Env0 P w K mg base A outer s H → BindsTo s fd args (ps.zip us) → Vals vs us → sp vs H Q E →
    codeAny (model P w) A (.call (.ref f) args) (CR CX outer P w H s Q E) s
section
variable {X : Cx} {pins : List (Addr × Obj)} {σ : St} {H : Hp} {s s' : Shared}
/-- from a body: what a callee wants -/
theorem Inv.env0 (I : Inv X pins σ H s) : Env0 X.prog X.w X.K X.mg X.base X.A X.stack s H :=
  ⟨I.ok.frames, I.ok.mod, I.bs, Nat.le_trans I.ok.bsz I.sz, I.stack, I.stkFree, I.hok, I.bare⟩
/-- behind a call -/
theorem Inv.after {Q : VK} {u : Value} (I : Inv X pins σ H s) (h : CE X.stack X.prog X.w H s Q u s') : EP X pins σ Q u s' := by
  obtain ⟨v, H', os, bare, un, hok, r, q⟩ := h
  obtain ⟨hh, g, d, t, os'⟩ := s'
  obtain rfl : os' = s.os := os
  exact ⟨v, H', I.call (h' := hh) (g' := g) (d' := d) (t' := t) (ch := []) un hok bare (fun b z => absurd z (by simp)), r, q⟩
end
/-! ### calls -/
/-- f(..): the written arguments, then the defaults dvs; E: what is wanted of an exception -/
def tCall (sp : Sp) (dvs : List V) (E : XK) (t : TA) : TE := fun σ H Q => t σ H fun vs H1 => sp (vs ++ dvs) H1 Q E
/-- how the parameters are bound: us the positional arguments, kw the keywords' values by name, ds the defaults that fill up -/
def Binds (K : PySem.W.Frag) (fd : FuncData) (ps : List Str) (ds : List Value) : Prop :=
  ∀ (s : Shared) (us : List Value), K.In s.heap → (us ++ ds).length = ps.length → BindsTo s fd ⟨us, []⟩ (ps.zip (us ++ ds))
/-- every parameter is given -/
theorem Binds.all {K : PySem.W.Frag} {fd : FuncData} {ps : List Str} (h : ∀ us : List Value, us.length = ps.length → bindArgs fd ⟨us, []⟩ = pure (ps.zip us)) : Binds K fd ps [] := fun s us _ hl => by
  rw [List.append_nil] at hl ⊢
  exact .of_eq (h us hl)
/-- an exception of a callee reaches what this body wants of exceptions -/
def Passes (CX : CXT) (X : Cx) (E : XK) : Prop := ∀ (pins : List (Addr × Obj)) (σ : St) (H : Hp) (s : Shared) (e : Value) (s' : Shared), Inv X pins σ H s → CX X.stack H s E e s' → X.xe e s'
section
variable {X : Cx} {CX : CXT} {k : Nat} {f C : Addr} {fd : FuncData} {ps : List Str} {sp : Sp} {dvs : List V} {ds : List Value} {E : XK} {x m : Str} {p pos apos : Pos} {e o : Expr} {es : List Expr} {ta : TE} {t : TA}
/-- the callee runs -/
theorem run_fn {pins : List (Addr × Obj)} {σ : St} {H : Hp} {s : Shared} {Q : VK} {us : List Value} {vs : List V} (F : FnOk X.prog X.w X.K X.mg X.base CX k f fd ps sp) (hr : Room k X.A) (hb : Binds X.K fd ps ds) (hd : Vals dvs ds) (hx : Passes CX X E)
    (I : Inv X pins σ H s) (r : Vals vs us) (h : sp (vs ++ dvs) H Q E) : wpAny (model X.prog X.w) X.A (call (.ref f) us) (EP X pins σ Q) X.xe s := by
  have r2 : Vals (vs ++ dvs) (us ++ ds) := r.append hd
  have hl : (us ++ ds).length = ps.length := by rw [← r2.length]; exact F.len _ _ _ _ h
  refine wpAny_call (codeAny_mono (F.run X.A X.stack s H ⟨us, []⟩ (us ++ ds) (vs ++ dvs) Q E hr I.env0 (hb s us I.kIn hl) r2 h) fun r s' hq => ?_)
  cases r with
  | error e => exact hx pins σ H s e s' I hq
  | ok fl =>
    cases fl with
    | ret u => exact I.after hq
    | next => exact False.elim hq
    | brk => exact False.elim hq
    | cont => exact False.elim hq
theorem pe_call (F : FnOk X.prog X.w X.K X.mg X.base CX k f fd ps sp) (hr : Room k X.A) (hg : Gl X x) (hm : X.mg x = some (.ref f)) (hk : PySem.W.keepIn X.K (.ref f) = true) (hb : Binds X.K fd ps ds) (hd : Vals dvs ds) (hx : Passes CX X E)
    (ha : PA X (e :: es) t) (hdb : (x == ("__debug__" : Str)) = false := by decide) (he : starEach (e :: es) X.env = (false, eval e X.env) :: starEach es X.env := by rfl) (hpl : (backTo pos (starEach es X.env)).any (·.1) = false := by rfl) :
    PE X (.Call (.Name x p) (e :: es) [] pos) (tCall sp dvs E t) := by
  intro pins s σ H Q I h
  refine wpAny_Call_Name_kw (ld_glob I hg hm ?_ hdb)
  refine PySem.W.callWith_K (h₀ := X.base) I.ok.mod.kin hk (thn (ha pos pins s σ H _ I h) fun us s1 ⟨vs, H1, I1, r, q⟩ => ⟨I1.kIn, ?_⟩) he hpl
  exact run_fn F hr hb hd hx I1 r q
end
section
variable {X : Cx} {CX : CXT} {k : Nat} {f C : Addr} {fd : FuncData} {ps ks : List Str} {sp : Sp} {E : XK} {x m : Str} {p pos apos kpos : Pos} {e o : Expr} {es : List Expr} {kws : List Keyword} {te ta : TE} {t tk : TA} {nm : Option Str}
variable {g : List Value → List Value → List Value} {gV : List V → List V → List V}
end
/-! ### a def's body keeps its promise -/
/-- names: the parameters first -/
structure FnScope (N P : List Str) (sc : Scope) : Prop where
  kind : sc.kind = .function
  co : sc.isCoroutine = false
  gen : sc.isGenerator = false
  nd : N.Nodup
  pre : N.take P.length = P
  par : ∀ x ∈ P, sc.names.lookup x = some .local ∨ sc.names.lookup x = some .cell
  nofree : ∀ y ∈ sc.names, y.2 ≠ .free
theorem bindL_out {kindOf : Str → Option NameKind} {x : Str} : ∀ {binds : List (Str × Value)} {m : Str → Option Value}, (∀ v, (x, v) ∉ binds) → bindL kindOf binds m x = m x
  | [], _, _ => rfl
  | (n, v) :: r, m, h => by
    unfold bindL
    rw [bindL_out fun w hw => h w (List.mem_cons_of_mem _ hw)]
    split
    · have : x ≠ n := by rintro rfl; exact h v List.mem_cons_self
      simp [this]
    · rfl
theorem bindC_out {kindOf : Str → Option NameKind} {x : Str} : ∀ {binds : List (Str × Value)} {m : Str → Option Value}, (∀ v, (x, v) ∉ binds) → bindC kindOf binds m x = m x
  | [], _, _ => rfl
  | (n, v) :: r, m, h => by
    unfold bindC
    rw [bindC_out fun w hw => h w (List.mem_cons_of_mem _ hw)]
    split
    · rfl
    · have : x ≠ n := by rintro rfl; exact h v List.mem_cons_self
      simp [this]
theorem bindL_get {kindOf : Str → Option NameKind} {x : Str} {v : Value} : ∀ {P : List Str} {vs : List Value} {i : Nat} {m : Str → Option Value}, P.Nodup → P[i]? = some x → vs[i]? = some v → kindOf x = some .local →
    bindL kindOf (P.zip vs) m x = some v
  | [], _, _, _, _, h, _, _ => by simp at h
  | _ :: _, [], _, _, _, _, h, _ => by simp at h
  | p :: P, w :: vs, 0, m, nd, h1, h2, hk => by
    simp at h1 h2; subst h1; subst h2
    show bindL kindOf ((p, w) :: P.zip vs) m p = _
    unfold bindL
    rw [bindL_out fun v hv => (List.nodup_cons.mp nd).1 (List.of_mem_zip hv).1, if_pos hk]
    simp
  | p :: P, w :: vs, i + 1, m, nd, h1, h2, hk => by
    show bindL kindOf ((p, w) :: P.zip vs) m x = _
    unfold bindL
    exact bindL_get (i := i) (List.nodup_cons.mp nd).2 (by simpa using h1) (by simpa using h2) hk
theorem bindC_get {kindOf : Str → Option NameKind} {x : Str} {v : Value} : ∀ {P : List Str} {vs : List Value} {i : Nat} {m : Str → Option Value}, P.Nodup → P[i]? = some x → vs[i]? = some v → kindOf x ≠ some .local →
    bindC kindOf (P.zip vs) m x = some v
  | [], _, _, _, _, h, _, _ => by simp at h
  | _ :: _, [], _, _, _, _, h, _ => by simp at h
  | p :: P, w :: vs, 0, m, nd, h1, h2, hk => by
    simp at h1 h2; subst h1; subst h2
    show bindC kindOf ((p, w) :: P.zip vs) m p = _
    unfold bindC
    rw [bindC_out fun v hv => (List.nodup_cons.mp nd).1 (List.of_mem_zip hv).1, if_neg hk]
    simp
  | p :: P, w :: vs, i + 1, m, nd, h1, h2, hk => by
    show bindC kindOf ((p, w) :: P.zip vs) m x = _
    unfold bindC
    exact bindC_get (i := i) (List.nodup_cons.mp nd).2 (by simpa using h1) (by simpa using h2) hk
/-- the names' values at the entry -/
def start (N : List Str) (vs : List V) : St := vs.map some ++ List.replicate (N.length - vs.length) none
/-- the context of a def's body, at its entry; an exception leaves the frame, then lies as CX says -/
def cxOf (CX : CXT) (P : Program) (w : World) (K : PySem.W.Frag) (mg : Str → Option Value) (base : Heap) (N : List Str) (qual : Str) (scope : Scope) (f : Addr) (cd : Value) (A : Around) (outer : List Env) (s : Shared) (H : Hp) (E : XK) : Cx where
  prog := P
  w := w
  K := K
  mg := mg
  base := base
  A := A.deeper (envOfC qual scope s.heap.objs.size f cd)
  N := N
  s₀ := s
  H₀ := H
  env := envOfC qual scope s.heap.objs.size f cd
  outer := outer
  stack := envOfC qual scope s.heap.objs.size f cd :: outer
  ex := []
  calm := true
  fn := fun _ => true
  pn := []
  xe := fun e s' => wpAny (model P w) (A.deeper (envOfC qual scope s.heap.objs.size f cd)) (leaving (envOfC qual scope s.heap.objs.size f cd) e) (fun _ s'' => CX outer H s E e s'') (fun e' s'' => CX outer H s E e' s'') s'
theorem cell_has {sc : Scope} {n : Nat} {x : Str} (h : sc.names.lookup x = some .cell) : ∃ c, (cellsFrom n sc.names []).lookup x = some c := by
  have q := PySem.W.cellsFrom_some sc.names n [] (.inl h)
  exact Option.isSome_iff_exists.mp q
theorem inv_start {CX : CXT} {P : Program} {w : World} {K : PySem.W.Frag} {mg : Str → Option Value} {base : Heap} {N ps : List Str} {qual : Str} {scope : Scope} {f : Addr} {cd : Value} {A : Around} {outer : List Env} {s s1 : Shared} {H : Hp} {E : XK} {us : List Value} {vs : List V}
    (S : FnScope N ps scope) (hd : A.handled = none) (e0 : Env0 P w K mg base A outer s H) (hl : vs.length = ps.length) (r : Vals vs us)
    (x : InCallC s s.heap.objs.size (bindL (envOfC qual scope s.heap.objs.size f cd).kindOf (ps.zip us) fun _ => none) (cellsFrom (s.heap.objs.size + 1) scope.names []) (bindC (envOfC qual scope s.heap.objs.size f cd).kindOf (ps.zip us) fun _ => none) s1) :
    Inv (cxOf CX P w K mg base N qual scope f cd A outer s H E) [] (start N vs) H s1 := by
  have hpl : ps.length ≤ N.length := by have := congrArg List.length S.pre; rw [List.length_take] at this; omega
  obtain ⟨h1, tk, rfl, hk⟩ := x.done
  have noA : ∀ b : Addr, b ∉ (cxOf CX P w K mg base N qual scope f cd A outer s H E).ex := fun b z => absurd (show b ∈ ([] : List Addr) from z) (by simp)
  refine ⟨⟨e0.mod, S.kind, rfl, rfl, Nat.le_refl _, fun y z c h1 h2 => ?_, fun y hy => ?_, fun y c _ h => ?_, fun _ => hd, Around.frames_deeper e0.frames, .inr ⟨rfl, rfl⟩, fun b z => absurd z (noA b), e0.bs, e0.bsz, fun b _ _ => noA b, fun b z => absurd z (noA b), e0.funs, e0.frf⟩,
    rfl, e0.bare, Un.kept hk, ⟨_, x.toInCall.ns, fun i y v h1 h2 h3 => ?_⟩, fun y c h => ⟨_, x.cell y c h⟩, e0.hok.fresh (Nat.le_refl _), fun y c h => ?_, fun p hp => absurd (show p ∈ ([] : List (Addr × Obj)) from hp) (by simp), e0.hok.kept hk, ?_⟩
  · exact name_of_addr x.apart (PySem.mem_of_lookup h1) (PySem.mem_of_lookup h2)
  · have hy : scope.names.lookup y = some .cell ∨ scope.names.lookup y = some .free := hy
    rcases hy with hy | hy
    · exact cell_has hy
    · exact absurd rfl (S.nofree _ (PySem.mem_of_lookup hy))
  · exact Nat.le_of_lt (x.above y c (PySem.mem_of_lookup h))
  · have hi : i < vs.length := by
      unfold start at h2
      by_cases hi : i < vs.length
      · exact hi
      · rw [List.getElem?_append_right (by simpa using hi)] at h2
        rw [List.getElem?_replicate] at h2
        split at h2 <;> cases h2
    have ha : vs[i]? = some v := by
      unfold start at h2
      rw [List.getElem?_append_left (by simpa using hi), List.getElem?_map] at h2
      cases e : vs[i]? with
      | none => rw [e] at h2; cases h2
      | some a => rw [e] at h2; cases h2; rfl
    obtain ⟨u, hu, rv⟩ := r.get ha
    have hp : ps[i]? = some y := by
      rw [← S.pre, List.getElem?_take_of_lt (by omega)]; exact h1
    have ndP : ps.Nodup := by rw [← S.pre]; exact S.nd.sublist (List.take_sublist _ _)
    refine ⟨u, rv, ?_⟩
    rcases S.par y (List.mem_of_getElem? hp) with k | k
    · exact .inl ⟨k, bindL_get ndP hp hu k⟩
    · obtain ⟨c, e⟩ := cell_has (n := s.heap.objs.size + 1) k
      refine .inr ⟨.inl k, c, e, ?_⟩
      have q := x.cell y c e
      rw [bindC_get ndP hp hu (by show scope.names.lookup y ≠ _; rw [k]; decide)] at q
      exact q
  · exact e0.hok.fresh (Nat.le_of_lt (x.above y c (PySem.mem_of_lookup h)))
  · unfold start
    show _ = N.length
    rw [List.length_append, List.length_map, List.length_replicate]
    omega
/-- THE RULE: a def (or a method) of the text, by its body. The body's reading t is chosen for each entry; it is run at the parameters' values -/
theorem fn_of {CX : CXT} {P : Program} {w : World} {K : PySem.W.Frag} {mg : Str → Option Value} {base : Heap} {k : Nat} {f : Addr} {name qual : Str} {params : Arguments} {body : List Stmt} {scope : Scope} {dV kV doc pm cdv ct oc : Value} {an od : Option Addr}
    {osl : Array (Option Value)} {N ps : List Str} {sp : Sp} (lk : K.lookup f = some ⟨oc, od, .func (PySem.W.fnOf name qual params body scope dV kV doc pm an cdv ct), osl⟩) (hcd : PySem.W.codeIn K cdv qual = true) (S : FnScope N ps scope)
    (len : ∀ vs H Q E, sp vs H Q E → vs.length = ps.length)
    (hbody : ∀ (A : Around) (outer : List Env) (s : Shared) (H : Hp) (vs : List V) (Q : VK) (E : XK), Room k (A.deeper (envOfC qual scope s.heap.objs.size f cdv)) → sp vs H Q E →
      ∃ t, PSs (cxOf CX P w K mg base N qual scope f cdv A outer s H E) body t ∧ t { nx := fun _ H' => Q .non H', rt := Q } (start N vs) H) :
    FnOk P w K mg base CX (k + 1) f (PySem.W.fnOf name qual params body scope dV kV doc pm an cdv ct) ps sp := by
  refine ⟨len, fun A outer s H args us vs Q E hr e0 hb r hsp => ?_⟩
  have hl := len _ _ _ _ hsp
  have KX : K.In s.heap := e0.mod.kin.keeps fun b o e => (e0.bs b o e).1
  have lim : s.heap.NoLimit := e0.mod.nolimit.keeps fun b o e => (e0.bs b o e).1
  have hkind : ∀ y ∈ ps.zip us, scope.names.lookup y.1 = some .local ∨ (scope.names.lookup y.1 = some .cell ∧ ((cellsFrom (s.heap.objs.size + 1) scope.names []).lookup y.1).isSome = true) := fun ⟨n, v⟩ hy => by
    rcases S.par n (List.of_mem_zip hy).1 with q | q
    · exact .inl q
    · exact .inr ⟨q, PySem.W.cellsFrom_some _ _ _ (.inl q)⟩
  refine codeAny_call_function hr.depth (KX _ _ lk) rfl S.co S.gen rfl (PySem.W.codeRec_of KX hcd) (hb _ _ _ _ ?_)
  refine wpAny_newFunctionEnv_cells S.kind hkind fun env he s1 x => ?_
  subst he
  refine ⟨lim.keeps x.toInCall.keep, codeAny_func ?_⟩
  obtain ⟨t, ht, hq⟩ := hbody A outer s H vs Q E (hr.deeper _) hsp
  have I : Inv (cxOf CX P w K mg base N qual scope f cdv A outer s H E) [] (start N vs) H s1 := inv_start S hr.hd e0 hl r x
  refine wpAny_mono (ht [] s1 (start N vs) H _ I hq) (fun fl s' hs => ?_) fun e s' hs => hs
  have fin : ∀ {σ' : St} {H' : Hp} {v : V} {u : Value}, Inv (cxOf CX P w K mg base N qual scope f cdv A outer s H E) [] σ' H' s' → RelV v u → Q v H' → CE outer P w H s Q u s' :=
    fun {σ' H' v u} J rv q => ⟨v, H', J.os, J.bare, J.base, J.hok, rv, q⟩
  cases fl with
  | ret u =>
    obtain ⟨v, σ', H', J, rv, q⟩ := hs
    exact fin J rv q
  | next =>
    obtain ⟨σ', H', J, q⟩ := hs
    exact fin (v := V.non) (u := Value.none) J rfl q
  | brk =>
    obtain ⟨_, _, _, q⟩ := hs
    exact False.elim q
  | cont =>
    obtain ⟨_, _, _, q⟩ := hs
    exact False.elim q
end L2
namespace L2
open PySem PySem.Spec PyProof.Rows
section
variable {X : Cx} {x : Str} {p pos : Pos} {e : Expr} {es : List Expr} {t : TA} {id T : String} {r : List V → Hp → VK → Prop}
def tCB (r : List V → Hp → VK → Prop) (t : TA) : TE := fun σ H Q => t σ H fun vs H1 => r vs H1 Q
/-- f(e, ..), f a built-in function -/
theorem pe_callB (hc : CallR X (.builtin id) r) (hg : Gl X x) (hm : X.mg x = none) (hv : bootBuiltins x = some (.builtin id)) (ha : PA X (e :: es) t) (hn : x ≠ "__name__" := by decide) (hdb : (x == ("__debug__" : Str)) = false := by decide)
    (he : starEach (e :: es) X.env = (false, eval e X.env) :: starEach es X.env := by rfl) (hpl : (backTo pos (starEach es X.env)).any (·.1) = false := by rfl) : PE X (.Call (.Name x p) (e :: es) [] pos) (tCB r t) := by
  intro pins s σ H Q I h
  refine wpAny_Call_Name_kw (ld_blt I hg hm hv ?_ hn hdb)
  exact PyProof.Rows.callWith_builtin1 (thn (ha pos pins s σ H _ I h) fun us s1 ⟨vs, H1, I1, r1, q1⟩ => hc pins s1 σ H1 vs us Q I1 r1 q1) he hpl
/-- T(e, ..), T a built-in type -/
theorem pe_callTy (hc : CallR X (.type T) r) (hg : Gl X x) (hm : X.mg x = none) (hv : bootBuiltins x = some (.type T)) (ha : PA X (e :: es) t) (hn : x ≠ "__name__" := by decide) (hdb : (x == ("__debug__" : Str)) = false := by decide)
    (he : starEach (e :: es) X.env = (false, eval e X.env) :: starEach es X.env := by rfl) (hpl : (backTo pos (starEach es X.env)).any (·.1) = false := by rfl) : PE X (.Call (.Name x p) (e :: es) [] pos) (tCB r t) := by
  intro pins s σ H Q I h
  refine wpAny_Call_Name_kw (ld_blt I hg hm hv ?_ hn hdb)
  exact PyProof.Rows.callWith_type1 (thn (ha pos pins s σ H _ I h) fun us s1 ⟨vs, H1, I1, r1, q1⟩ => hc pins s1 σ H1 vs us Q I1 r1 q1) he hpl
end
end L2
namespace HT
open PySem PyProof.Rows
section
open PySem.SeqAt
open PySem.AutoSeq1 (wpAny_loadPart')
open PySem.MeetsSeq PySem.MeetsSeq2 PySem.MeetsSeq3
end
section
variable {prog : Program} {w : World} {A : Around} {E : Value → Shared → Prop} {s : Shared}
/-- t + u, t not empty -/
theorem cat_tup {t b : Addr} {vs ws : List Value} {Q : Value → Shared → Prop} (ht : IsTup s.heap t vs.toArray) (hb : IsTup s.heap b ws.toArray) (hv : vs ≠ [])
    (h1 : ws = [] → Q (.ref t) s) (h2 : ws ≠ [] → Q (.ref s.heap.objs.size) { s with heap := s.heap.push { cls := .type "tuple", data := .seq (vs ++ ws).toArray } })
    (hsz : vs.length + ws.length ≤ sizeLine) : wpAny (model prog w) A (binaryOp .Add (.ref t) (.ref b)) Q E s := by
  obtain ⟨⟨cls, dd, data, sl⟩, ho, hc, n, hd⟩ := id ht
  obtain ⟨⟨cls2, dd2, data2, sl2⟩, ho2, hc2, n2, hd2⟩ := id hb
  simp only at hc hd hc2 hd2
  subst hc hd hc2 hd2
  have e : vs.toArray ++ ws.toArray = (vs ++ ws).toArray := by simp
  by_cases hw : ws = []
  · exact concat_meets ⟨_, ho, rfl⟩ ⟨_, ho2, rfl⟩ noFill_tuple_add seq_tuple_add PySem.F.slot_tuple_add PySem.F.entry_tuple_add (PySem.F.args_tuple_add_2 _ _)
      (tuple_addW1 t b vs.toArray ws.toArray n n2 dd dd2 sl sl2 (by simpa using hv) (by simp [hw])) ⟨ho, ho2, h1 hw⟩
  · refine concat_meets ⟨_, ho, rfl⟩ ⟨_, ho2, rfl⟩ noFill_tuple_add seq_tuple_add PySem.F.slot_tuple_add PySem.F.entry_tuple_add (PySem.F.args_tuple_add_2 _ _)
      (tuple_addW2 t b vs.toArray ws.toArray n n2 dd dd2 sl sl2 (by simpa using hv) (by simpa using hw) (by rw [List.size_toArray, List.size_toArray]; exact hsz)) ⟨ho, ho2, ?_⟩
    rw [e]
    exact h2 hw
/-! ### t[a:b], not the whole -/
/-- a slice's bound as a place among n (d where it is left out) -/
def sIx (n d : Nat) : Option Int → Nat
  | none => d
  | some v => if v < 0 then (v + (n : Int)).toNat else min v.toNat n
theorem sIx_none (n d : Nat) : sIx n d none = d := rfl
theorem sIx_nat (n d k : Nat) : sIx n d (some (k : Int)) = min k n := by
  show (if (k : Int) < 0 then ((k : Int) + (n : Int)).toNat else min (k : Int).toNat n) = min k n
  rw [if_neg (by omega), Int.toNat_natCast]
end
end HT
namespace L2
open PySem PySem.Spec PyProof.Rows
/-! ### the parts of a slice -/
abbrev TO := St → Hp → (Option Int → Hp → Prop) → Prop
/-- a slice's part (left out, or an int) -/
def PO (X : Cx) (e : Option Expr) (t : TO) : Prop :=
  ∀ (pins : List (Addr × Obj)) (s : Shared) (σ : St) (H : Hp) (Q : Option Int → Hp → Prop), Inv X pins σ H s → t σ H Q →
    wpAny (model X.prog X.w) X.A (evalPart e X.env) (fun u s' => ∃ o H', Inv X pins σ H' s' ∧ IsPart u o ∧ Q o H') X.xe s
def tNoPart : TO := fun _ H Q => Q none H
def tPart (t : TE) : TO := fun σ H Q => t σ H fun x H1 => ∃ i, x = .int i ∧ Q (some i) H1
theorem intsAre_of {ns : List Int} : ∀ {us : List Value}, Vals (ns.map V.int) us → IntsAre us ns := by
  induction ns with
  | nil => intro us r; rw [List.map_nil] at r; cases r; exact .nil
  | cons n ns ih =>
    intro us r
    rw [List.map_cons] at r
    cases r with
    | cons r1 r2 =>
      obtain ⟨t, e⟩ := r1
      subst e
      exact .cons n t (ih r2)
section
variable {X : Cx} {e : Expr} {te : TE} {lo hi : Option Expr} {tl th : TO} {pos p2 : Pos}
theorem po_none : PO X none tNoPart := by
  intro pins s σ H Q I h
  rw [evalPart_none]
  exact wpAny_pure ⟨none, H, I, .none, h⟩
theorem po_some (h : PE X e te) : PO X (some e) (tPart te) := by
  intro pins s σ H Q I hw
  rw [evalPart_some]
  refine thn (h pins s σ H _ I hw) fun u s1 ⟨x, H1, I1, r1, q1⟩ => ?_
  obtain ⟨i, rfl, q⟩ := q1
  obtain ⟨t, rfl⟩ := r1
  exact ⟨some i, H1, I1, .int i t, q⟩
/-- what a slice of a value is, by values: the slice object stands at sl -/
def SlR (X : Cx) (r : V → Option Int → Option Int → Hp → VK → Prop) : Prop :=
  ∀ (pins : List (Addr × Obj)) (s : Shared) (σ : St) (H : Hp) (x : V) (v vl vu : Value) (lo hi : Option Int) (sl : Addr) (Q : VK), Inv X pins σ H s → RelV x v → s.heap.IsSliceOf sl vl vu .none → IsPart vl lo → IsPart vu hi → r x lo hi H Q →
    ∃ T id, typeLookup (.type T) "__getitem__" = pure (some (.builtin id)) ∧ s.TypeIs v T ∧ wpAny (model X.prog X.w) X.A (getItem v (.ref sl)) (EP X pins σ Q) X.xe s
def tSl (r : V → Option Int → Option Int → Hp → VK → Prop) (te : TE) (tl th : TO) : TE := fun σ H Q => te σ H fun x H1 => tl σ H1 fun l H2 => th σ H2 fun u H3 => r x l u H3 Q
/-- a[lo:hi], any a -/
theorem pe_slice {r : V → Option Int → Option Int → Hp → VK → Prop} (hr : SlR X r) (he : PE X e te) (hl : PO X lo tl) (hu : PO X hi th) : PE X (.Subscript e (.Slice lo hi none p2) pos) (tSl r te tl th) := by
  intro pins s σ H Q I h
  refine Subscript_ (thn (he pins s σ H _ I h) fun v s1 ⟨x, H1, I1, r1, q1⟩ => ?_)
  refine wpAny_Slice (thn (hl pins s1 σ H1 _ I1 q1) fun vl s2 ⟨l, H2, I2, pl, q2⟩ => thn (hu pins s2 σ H2 _ I2 q2) fun vu s3 ⟨u, H3, I3, pu, q3⟩ => ?_)
  rw [evalPart_none]
  refine wpAny_pure ?_
  have I4 : Inv X pins σ H3 { s3 with heap := s3.heap.push { cls := .type "slice", data := .fields #[vl, vu, .none] } } := I3.kept (t' := s3.toks) fun b ob q => Heap.get?_push_of_some _ q
  obtain ⟨T, id, hT, ht, hg⟩ := hr pins { s3 with heap := s3.heap.push { cls := .type "slice", data := .fields #[vl, vu, .none] } } σ H3 x v vl vu l u s3.heap.objs.size Q I4 r1 (Heap.IsSliceOf.new ..) pl pu q3
  show wpAny (model X.prog X.w) X.A (subscriptTail e (.Slice lo hi none p2) v (.ref s3.heap.objs.size)) (EP X pins σ Q) X.xe { s3 with heap := s3.heap.push { cls := .type "slice", data := .fields #[vl, vu, .none] } }
  exact tail_any (ops := [.ref s3.heap.objs.size, v]) ht hT hg (by with_unfolding_all rfl)
/-- the items of xs[lo:hi] -/
def cutV (xs : List V) (lo hi : Option Int) : List V := (xs.drop (HT.sIx xs.length 0 lo)).take (HT.sIx xs.length xs.length hi - HT.sIx xs.length 0 lo)
theorem cutV_length (xs : List V) (lo hi : Option Int) : (cutV xs lo hi).length ≤ xs.length := by
  unfold cutV
  rw [List.length_take, List.length_drop]
  omega
/-- t + u, t not empty: u empty gives t itself -/
def rCatT (K : PySem.W.Frag) : R2 := fun x y H Q => ∃ a b xs ys, x = .ref a ∧ y = .ref b ∧ SqT K H a xs ∧ SqT K H b ys ∧ xs ≠ [] ∧ xs.length + ys.length ≤ sizeLine ∧
  (ys = [] → Q (.ref a) H) ∧ (ys ≠ [] → ∀ p, H p = none → Q (.ref p) (upd H p (.tup (xs ++ ys))))
theorem Vals.nil_iff {xs : List V} {us : List Value} (r : Vals xs us) : us = [] ↔ xs = [] := by
  cases r with
  | nil => simp
  | cons _ _ => simp
theorem op_catT : OpR X (binaryOp .Add) (rCatT X.K) := by
  intro pins s σ H x y v u Q I rx ry h
  obtain ⟨a, b, xs, ys, rfl, rfl, ha, hb, hx, hz, q1, q2⟩ := h
  cases rx
  cases ry
  obtain ⟨its, r1, p1, _⟩ := I.tuple ha
  obtain ⟨its2, r2, p2, _⟩ := I.tuple hb
  refine HT.cat_tup p1 p2 (fun z => hx (r1.nil_iff.mp z)) (fun z => ⟨.ref a, H, I, rfl, q1 (r2.nil_iff.mp z)⟩) (fun z => ?_) (by rw [← r1.length, ← r2.length]; exact hz)
  refine ⟨.ref s.heap.objs.size, _, I.laid (t' := s.toks) (o := .tup (xs ++ ys)) (fun b ob q => Heap.get?_push_of_some _ q) (Nat.le_refl _) ?_, rfl, q2 (fun w => z (r2.nil_iff.mpr w)) _ (I.hok.fresh (Nat.le_refl _))⟩
  exact ⟨⟨by rw [List.length_append]; exact hz, _, Heap.get?_push_size _ rfl, rfl⟩, _, r1.append r2, IsTup.new _ _⟩
end
end L2
namespace L2
open PySem PySem.Spec PyProof.Rows
/-! ### places -/
/-- the place that an index of any sign means -/
def ixN (n : Nat) (i : Int) : Option Nat := if 0 ≤ i then (if i < n then some i.toNat else none) else if -(n : Int) ≤ i then some (i + n).toNat else none
def atI {α : Type} (xs : List α) (i : Int) : Option α := (ixN xs.length i).bind fun j => xs[j]?
theorem ixN_seq {n : Nat} {i : Int} {j : Nat} (h : ixN n i = some j) : seqIndex? i n = some j ∧ j < n ∧ -(n : Int) ≤ i ∧ i < n := by
  unfold ixN at h
  by_cases h0 : 0 ≤ i
  · rw [if_pos h0] at h
    by_cases h1 : i < n
    · rw [if_pos h1] at h
      have e : i.toNat = j := Option.some.inj h
      exact ⟨by rw [seqIndex_of h0 h1, e], by omega, by omega, h1⟩
    · rw [if_neg h1] at h; cases h
  · rw [if_neg h0] at h
    by_cases h1 : -(n : Int) ≤ i
    · rw [if_pos h1] at h
      have e : (i + n).toNat = j := Option.some.inj h
      exact ⟨by rw [seqIndex_neg (by omega) h1, e], by omega, h1, by omega⟩
    · rw [if_neg h1] at h; cases h
theorem atI_get {α : Type} {xs : List α} {i : Int} {v : α} (h : atI xs i = some v) : ∃ j, seqIndex? i xs.length = some j ∧ xs[j]? = some v ∧ j < xs.length ∧ -(xs.length : Int) ≤ i ∧ i < xs.length := by
  unfold atI at h
  cases e : ixN xs.length i with
  | none => rw [e] at h; cases h
  | some j =>
    rw [e] at h
    obtain ⟨h1, h2, h3, h4⟩ := ixN_seq e
    exact ⟨j, h1, h, h2, h3, h4⟩
theorem atI_nat {α : Type} {xs : List α} {j : Nat} {v : α} (h : xs[j]? = some v) : atI xs (j : Int) = some v := by
  have hj : j < xs.length := (List.getElem?_eq_some_iff.mp h).1
  have e : ixN xs.length (j : Int) = some j := by
    unfold ixN
    rw [if_pos (by omega), if_pos (by omega)]; simp
  unfold atI; rw [e]; exact h
/-! ### what may be subscripted -/
/-- what stands as an index of a plain subscript -/
def PlainIx (b : Expr) : Prop := ∀ o i, subscripted b false o i = operate [o, i] (getItem o i)
/-- a subscript by values -/
def IxR (X : Cx) (r : R2) : Prop :=
  ∀ (value slice : Expr) (pins : List (Addr × Obj)) (s : Shared) (σ : St) (H : Hp) (x y : V) (v u : Value) (Q : VK), Inv X pins σ H s → RelV x v → RelV y u → r x y H Q →
    subscripted slice false v u = operate [v, u] (getItem v u) → wpAny (model X.prog X.w) X.A (subscriptTail value slice v u) (EP X pins σ Q) X.xe s
/-- a call of a builtin's method by values: the receiver, the arguments -/
def MtR (X : Cx) (id : String) (r : V → List V → Hp → VK → Prop) : Prop :=
  ∀ (pins : List (Addr × Obj)) (s : Shared) (σ : St) (H : Hp) (x : V) (xs : List V) (v : Value) (us : List Value) (Q : VK), Inv X pins σ H s → RelV x v → Vals xs us → r x xs H Q →
    wpAny (model X.prog X.w) X.A (call (.builtin id) (v :: us)) (EP X pins σ Q) X.xe s
section
variable {X : Cx} {a b : Expr} {ta tb : TE} {pos : Pos}
theorem IxR.or {r r' : R2} (h : IxR X r) (h' : IxR X r') : IxR X (fun x y H Q => r x y H Q ∨ r' x y H Q) := by
  intro value slice pins s σ H x y v u Q I rx ry q hs
  rcases q with q | q
  · exact h value slice pins s σ H x y v u Q I rx ry q hs
  · exact h' value slice pins s σ H x y v u Q I rx ry q hs
/-- a[b] -/
theorem pe_ix {r : R2} (hr : IxR X r) (ha : PE X a ta) (hb : PE X b tb) (hs : PlainIx b) : PE X (.Subscript a b pos) (tOp r ta tb) := by
  intro pins s σ H Q I h
  exact Subscript_ (binT ha hb I h fun v u s2 x y H2 I2 rx ry q => hr a b pins s2 σ H2 x y v u Q I2 rx ry q (hs _ _))
def rIxL (K : PySem.W.Frag) : R2 := fun x y H Q => ∃ p xs i v, x = .ref p ∧ y = .int i ∧ SqL K H p xs ∧ atI xs i = some v ∧ Q v H
def rIxT (K : PySem.W.Frag) : R2 := fun x y H Q => ∃ p xs i v, x = .ref p ∧ y = .int i ∧ SqT K H p xs ∧ atI xs i = some v ∧ Q v H
def rIxS : R2 := fun x y H Q => ∃ z i c, x = .str z ∧ y = .int i ∧ z.length ≤ sizeLine ∧ atI z.cps.toList i = some c ∧ Q (.str ⟨#[c]⟩) H
theorem ix_list : IxR X (rIxL X.K) := by
  intro value slice pins s σ H x y v u Q I rx ry h hs
  obtain ⟨p, xs, i, z, rfl, rfl, hq, he, q⟩ := h
  cases rx
  obtain ⟨t, rfl⟩ := ry
  obtain ⟨its, r, pl, hz⟩ := I.list hq
  obtain ⟨j, h1, h2, h3, h4, h5⟩ := atI_get he
  obtain ⟨w, ew, rw'⟩ := r.get h2
  have hl := r.length
  have hn := line63
  have fin : EP X pins σ Q w s := ⟨z, H, I, rw', q⟩
  by_cases h0 : 0 ≤ i
  · have hj : i.toNat = j := by
      rw [seqIndex_of h0 h5] at h1
      exact Option.some.inj h1
    exact item_listR pl.isList h0 (by omega) (by rw [hj]; simpa using ew) fin hs
  · have hj : (i + (its.toArray.size : Int)).toNat = j := by
      rw [seqIndex_neg (by omega) h4] at h1
      rw [List.size_toArray, ← hl]
      exact Option.some.inj h1
    exact subscriptTail_builtinR (x := w) pl.isList.typeIs slot_list_getitem.lookup
      (wpAny_getItem_list_neg (Q := fun r s' => r = w ∧ EP X pins σ Q r s') pl.isList (by omega) (by rw [List.size_toArray] <;> omega) (by omega) (by rw [hj]; simpa using ew) ⟨rfl, fin⟩) hs
theorem ix_tup : IxR X (rIxT X.K) := by
  intro value slice pins s σ H x y v u Q I rx ry h hs
  obtain ⟨p, xs, i, z, rfl, rfl, hq, he, q⟩ := h
  cases rx
  obtain ⟨t, rfl⟩ := ry
  obtain ⟨its, r, pl, hz⟩ := I.tuple hq
  obtain ⟨j, h1, h2, h3, h4, h5⟩ := atI_get he
  obtain ⟨w, ew, rw'⟩ := r.get h2
  have hl := r.length
  have hn := line63
  have fin : EP X pins σ Q w s := ⟨z, H, I, rw', q⟩
  exact subscriptTail_builtinR (x := w) pl.typeIs slot_tuple_getitem.lookup
    (getItem_tuple (j := j) (Q := fun r s' => r = w ∧ EP X pins σ Q r s') pl (by omega) (by omega) (by rw [List.size_toArray, ← hl]; exact h1) (by simpa using ew) ⟨rfl, fin⟩) hs
theorem ix_str : IxR X rIxS := by
  intro value slice pins s σ H x y v u Q I rx ry h hs
  obtain ⟨z, i, c, rfl, rfl, hz, he, q⟩ := h
  obtain ⟨t, rfl⟩ := rx
  obtain ⟨t', rfl⟩ := ry
  obtain ⟨j, h1, h2, h3, h4, h5⟩ := atI_get he
  have hl : z.cps.toList.length = z.length := by simp [Str.length]
  rw [hl] at h1 h4 h5
  have hn := line63
  exact tail_any (typeIs_str s z t) slot_str_getitem.lookup (getItem_str (c := c) (by
    have e1 : decide (i < -(2 ^ 63 : Int)) = false := decide_eq_false (by omega)
    have e2 : decide (i ≥ 2 ^ 63) = false := decide_eq_false (by omega)
    rw [e1, e2, Bool.or_false]) (by rw [h1]; simpa using h2) ⟨.str ⟨#[c]⟩, H, I.tok _, ⟨_, rfl⟩, q⟩) hs
/-- list, tuple or str -/
def rIx (K : PySem.W.Frag) : R2 := fun x y H Q => rIxL K x y H Q ∨ rIxT K x y H Q ∨ rIxS x y H Q
theorem ix_seq : IxR X (rIx X.K) := ix_list.or (ix_tup.or ix_str)
/-! ### xs[i] = v, any sign -/
/-- the list's object behind a store -/
theorem mapSeq_set (its : List Value) (n j : Nat) (u : Value) : Obj.mapSeq (·.setIfInBounds j u) { cls := .type "list", data := .seq its.toArray n } = { cls := .type "list", data := .seq (its.set j u).toArray n } := by
  simp [Obj.mapSeq]
theorem Inv.lst {pins : List (Addr × Obj)} {σ : St} {H : Hp} {s : Shared} {p : Addr} {xs : List V} (I : Inv X pins σ H s) (h : H p = some (.lst xs)) :
    ∃ (its : List Value) (n : Nat), Vals xs its ∧ s.heap.get? p = some { cls := .type "list", data := .seq its.toArray n } ∧ xs.length ≤ sizeLine := by
  obtain ⟨z, its, n, r, e⟩ := I.hok p _ h
  exact ⟨its, n, r, e, z⟩
/-- the list at p is written by an update of its object -/
theorem Inv.lstUpd {pins : List (Addr × Obj)} {σ : St} {H : Hp} {s : Shared} {p : Addr} {xs ys : List V} {its its' : List Value} {n n' : Nat} {f : Obj → Obj} (I : Inv X pins σ H s) (h : H p = some (.lst xs))
    (ho : s.heap.get? p = some { cls := .type "list", data := .seq its.toArray n }) (hf : f { cls := .type "list", data := .seq its.toArray n } = { cls := .type "list", data := .seq its'.toArray n' }) (r : Vals ys its') (hz : ys.length ≤ sizeLine) (t : Nat) :
    Inv X pins σ (upd H p (.lst ys)) { s with heap := s.heap.update p f, toks := t } := by
  have e : (s.heap.update p f).get? p = some { cls := .type "list", data := .seq its'.toArray n' } := by
    rw [Heap.get?_update_self f ho (by rw [hf] <;> rfl), hf]
  refine I.write (x := p) (e := p) (by rw [h]; trivial) (.inl rfl) (fun b u hb q => (Heap.get?_update_other _ _ (Ne.symm hb)).trans q) ⟨_, e⟩ ?_
  exact ⟨hz, its', n', r, e⟩
def rSetL : V → V → V → Hp → (Hp → Prop) → Prop := fun o i v H Q => ∃ p xs k j, o = .ref p ∧ i = .int k ∧ H p = some (.lst xs) ∧ ixN xs.length k = some j ∧ Q (upd H p (.lst (xs.set j v)))
theorem set_list : PSet X rSetL := by
  intro pins s σ H o i v ov iv u Q I ro ri rv h
  obtain ⟨p, xs, k, j, rfl, rfl, hp, hj, q⟩ := h
  cases ro
  obtain ⟨t, rfl⟩ := ri
  obtain ⟨its, n, r, ho, hz⟩ := I.lst hp
  obtain ⟨h1, h2, h3, h4⟩ := ixN_seq hj
  have hl := r.length
  have hn := line63
  have I' : Inv X pins σ (upd H p (.lst (xs.set j v))) { s with heap := s.heap.update p (Obj.mapSeq (·.setIfInBounds j u)) } :=
    I.lstUpd hp ho (mapSeq_set its n j u) (r.set rv j) (by rw [List.length_set]; exact hz) s.toks
  by_cases h0 : 0 ≤ k
  · have hk : k.toNat = j := by
      rw [seqIndex_of h0 h4] at h1
      exact Option.some.inj h1
    exact PySem.W.ki_setAt ho h0 (by omega) (by rw [List.size_toArray, ← hl]; exact h4) (by rw [hk]; exact ⟨_, I', q⟩)
  · have hk : (k + (its.toArray.size : Int)).toNat = j := by
      rw [seqIndex_neg (by omega) h3] at h1
      rw [List.size_toArray, ← hl]
      exact Option.some.inj h1
    exact PySem.W.ki_setBack ho (by omega) (by rw [List.size_toArray, ← hl]; exact h3) (by omega) (by rw [hk]; exact ⟨_, I', q⟩)
/-! ### slices -/
theorem slice_bounds (lo hi : Option Int) (n : Nat) : (sliceBounds lo hi none n).1 = ((HT.sIx n 0 lo : Nat) : Int) ∧ (sliceBounds lo hi none n).2.1 = ((HT.sIx n n hi : Nat) : Int) ∧ (sliceBounds lo hi none n).2.2 = 1 := by
  refine ⟨?_, ?_, rfl⟩
  · cases lo with
    | none => simp [sliceBounds, HT.sIx]
    | some i =>
      simp only [sliceBounds, HT.sIx, Option.getD_none, show (1 : Int) > 0 by decide, if_true]
      by_cases h : i < 0
      · simp only [h, if_true] <;> omega
      · simp only [h, if_false] <;> omega
  · cases hi with
    | none => simp [sliceBounds, HT.sIx]
    | some i =>
      simp only [sliceBounds, HT.sIx, Option.getD_none, show (1 : Int) > 0 by decide, if_true]
      by_cases h : i < 0
      · simp only [h, if_true] <;> omega
      · simp only [h, if_false] <;> omega
theorem slicePick_cut (its : List Value) (lo hi : Option Int) : slicePick its.toArray lo hi none = ((its.drop (HT.sIx its.length 0 lo)).take (HT.sIx its.length its.length hi - HT.sIx its.length 0 lo)).toArray := by
  obtain ⟨h1, h2, h3⟩ := slice_bounds lo hi its.toArray.size
  unfold slicePick
  rw [h1, h2, h3]
  simp only [sliceRange_one, pick_run, List.size_toArray] <;> rfl
/-- xs[lo:hi] of a list: a new list -/
def rSlL (K : PySem.W.Frag) : V → Option Int → Option Int → Hp → VK → Prop := fun x lo hi H Q => ∃ a xs, x = .ref a ∧ SqL K H a xs ∧ ∀ p, H p = none → Q (.ref p) (upd H p (.lst (cutV xs lo hi)))
theorem sl_list : SlR X (rSlL X.K) := by
  intro pins s σ H x v vl vu lo hi sl Q I rx hs pl pu h
  obtain ⟨a, xs, rfl, hx, q⟩ := h
  cases rx
  obtain ⟨its, r, ht, hz⟩ := I.list hx
  have hlen := r.length
  refine ⟨"list", _, slot_list_getitem.lookup, ht.isList.typeIs, ?_⟩
  refine wpAny_getItem_list_slice ht.isList hs pl pu .none (by simp) ?_ (by rw [List.size_toArray] <;> omega)
  rw [slicePick_cut, ← hlen]
  refine ⟨.ref s.heap.objs.size, _, I.laid (t' := s.toks) (o := .lst (cutV xs lo hi)) (fun b ob q => Heap.get?_push_of_some _ q) (Nat.le_refl _) ?_, rfl, q _ (I.hok.fresh (Nat.le_refl _))⟩
  exact ⟨Nat.le_trans (cutV_length xs lo hi) hz, _, 0, (r.drop (HT.sIx xs.length 0 lo)).take (HT.sIx xs.length xs.length hi - HT.sIx xs.length 0 lo), Heap.get?_push_size _ rfl⟩
/-! ### in, not in: flat items -/
def flatV : V → Bool
  | .non => true
  | .bl _ => true
  | .int _ => true
  | .str _ => true
  | _ => false
/-- == of flat values -/
def eqV : V → V → Bool
  | .non, .non => true
  | .bl a, .bl b => a == b
  | .bl a, .int b => (if a then 1 else 0) == b
  | .int a, .bl b => a == (if b then 1 else 0)
  | .int a, .int b => a == b
  | .str a, .str b => a == b
  | _, _ => false
theorem eqAt_V {A : Around} {s : Shared} {y x : V} {u v : Value} (ry : RelV y u) (rx : RelV x v) (fy : flatV y = true) (fx : flatV x = true) : SeqAt.EqAt A s u v (eqV y x) := by
  cases y with
  | non =>
    cases ry
    cases x with
    | non => cases rx; exact SeqAt.EqAt.same _
    | bl b => cases rx; exact SeqAt.EqAt.none_bool b
    | int b => obtain ⟨t, rfl⟩ := rx; exact SeqAt.EqAt.none_int b t
    | str b => obtain ⟨t, rfl⟩ := rx; exact SeqAt.EqAt.none_str b t
    | _ => exact absurd (show false = true from fx) Bool.false_ne_true
  | bl a =>
    cases ry
    cases x with
    | non => cases rx; exact SeqAt.EqAt.bool_none a
    | bl b => cases rx; exact SeqAt.EqAt.bool_bool a b
    | int b => obtain ⟨t, rfl⟩ := rx; exact SeqAt.EqAt.bool_int a b t
    | str b => obtain ⟨t, rfl⟩ := rx; exact SeqAt.EqAt.bool_str a b t
    | _ => exact absurd (show false = true from fx) Bool.false_ne_true
  | int a =>
    obtain ⟨t', rfl⟩ := ry
    cases x with
    | non => cases rx; exact SeqAt.EqAt.int_none a t'
    | bl b => cases rx; exact SeqAt.EqAt.int_bool a t' b
    | int b => obtain ⟨t, rfl⟩ := rx; exact SeqAt.EqAt.int_int a t' b t
    | str b => obtain ⟨t, rfl⟩ := rx; exact SeqAt.EqAt.int_str a t' b t
    | _ => exact absurd (show false = true from fx) Bool.false_ne_true
  | str a =>
    obtain ⟨t', rfl⟩ := ry
    cases x with
    | non => cases rx; exact SeqAt.EqAt.str_none a t'
    | bl b => cases rx; exact SeqAt.EqAt.str_bool a t' b
    | int b => obtain ⟨t, rfl⟩ := rx; exact SeqAt.EqAt.str_int a t' b t
    | str b => obtain ⟨t, rfl⟩ := rx; exact SeqAt.EqAt.str_str a t' b t
    | _ => exact absurd (show false = true from fx) Bool.false_ne_true
  | _ => exact absurd (show false = true from fy) Bool.false_ne_true
/-- the items' answers, read off the values (a value's own answer does not lean on its token) -/
def eqU (x : V) (u : Value) : Bool := match u with
  | .none => eqV .non x
  | .bool b => eqV (.bl b) x
  | .int i _ => eqV (.int i) x
  | .str z _ => eqV (.str z) x
  | _ => false
theorem eqU_of {x y : V} {u : Value} (r : RelV y u) (f : flatV y = true) : eqU x u = eqV y x := by
  cases y with
  | non => cases r; rfl
  | bl b => cases r; rfl
  | int i => obtain ⟨t, rfl⟩ := r; rfl
  | str z => obtain ⟨t, rfl⟩ := r; rfl
  | _ => exact absurd (show false = true from f) Bool.false_ne_true
theorem mem_eqAt {A : Around} {s : Shared} {x : V} {v : Value} (rx : RelV x v) (fx : flatV x = true) : ∀ {xs : List V} {us : List Value}, Vals xs us → xs.all flatV = true → ∀ u ∈ us, SeqAt.EqAt A s u v (eqU x u)
  | _, _, .nil, _ => fun u hu => by cases hu
  | y :: xs, u :: us, .cons r t, f => fun u' hu => by
    rw [List.all_cons, Bool.and_eq_true] at f
    rcases List.mem_cons.mp hu with rfl | hu
    · rw [eqU_of r f.1]; exact eqAt_V r rx f.1 fx
    · exact mem_eqAt rx fx t f.2 u' hu
theorem call_list_of : CallR X (.type "list") (fun xs H Q => ∃ p ys, xs = [.ref p] ∧ (SqL X.K H p ys ∨ SqT X.K H p ys) ∧ ∀ l, H l = none → Q (.ref l) (upd H l (.lst ys))) := by
  intro pins s σ H xs us Q I r h
  obtain ⟨p, ys, rfl, hq, q⟩ := h
  obtain ⟨u, rfl, rx⟩ := vals1 r
  cases rx
  have fin : ∀ (its : List Value), Vals ys its → ys.length ≤ sizeLine → ∀ (h' : Heap) (c' : Nat), (∀ b o', s.heap.get? b = some o' → h'.get? b = some o') →
      h'.get? s.heap.objs.size = some { cls := .type "list", dict := none, data := .seq its.toArray c', slots := #[] } → EP X pins σ Q (.ref s.heap.objs.size) { s with heap := h' } := fun its r' hz h' c' kp e =>
    ⟨.ref s.heap.objs.size, _, I.laid (t' := s.toks) kp (Nat.le_refl _) (show ObjOk X.prog X.w _ h' _ (.lst ys) from ⟨hz, its, c', r', e⟩), rfl, q _ (I.hok.fresh (Nat.le_refl _))⟩
  rcases hq with hq | hq
  · obtain ⟨its, r', pl, hz⟩ := I.list hq
    have hlen := r'.length
    obtain ⟨o, ho, hc, n, hd⟩ := pl.isList
    exact call_list_seq p (.inl rfl) ho hc hd (fun h' c' kp e => fin its r' hz h' c' kp e) (by simp only [List.size_toArray] <;> omega)
  · obtain ⟨its, r', pl, hz⟩ := I.tuple hq
    have hlen := r'.length
    obtain ⟨o, ho, hc, n, hd⟩ := pl
    exact call_list_seq p (.inr rfl) ho hc hd (fun h' c' kp e => fin its r' hz h' c' kp e) (by simp only [List.size_toArray] <;> omega)
theorem call_tuple_of : CallR X (.type "tuple") (fun xs H Q => ∃ p ys, xs = [.ref p] ∧ ((SqL X.K H p ys ∧ ∀ l, H l = none → Q (.ref l) (upd H l (.tup ys))) ∨ (SqT X.K H p ys ∧ Q (.ref p) H))) := by
  intro pins s σ H xs us Q I r h
  obtain ⟨p, ys, rfl, h⟩ := h
  obtain ⟨u, rfl, rx⟩ := vals1 r
  cases rx
  rcases h with ⟨hq, q⟩ | ⟨hq, q⟩
  · obtain ⟨its, r', pl, hz⟩ := I.list hq
    have hlen := r'.length
    refine call_tuple_list pl.isList (fun h' kp => ?_) (by simp only [List.size_toArray] <;> omega)
    have I1 : Inv X pins σ H { s with heap := h' } := I.kept (t' := s.toks) kp
    have I2 : Inv X pins σ (upd H h'.objs.size (.tup ys)) { s with heap := h'.push { cls := .type "tuple", data := .seq its.toArray } } :=
      I1.laid (t' := s.toks) (fun b o e => Heap.get?_push_of_some _ e) (Nat.le_refl _) (show ObjOk X.prog X.w _ _ _ (.tup ys) from ⟨⟨hz, _, Heap.get?_push_size _ rfl, rfl⟩, its, r', IsTup.new _ _⟩)
    exact ⟨.ref h'.objs.size, _, I2, rfl, q _ (I1.hok.fresh (Nat.le_refl _))⟩
  · obtain ⟨its, r', pl, hz⟩ := I.tuple hq
    exact call_tuple_same pl ⟨.ref p, H, I, rfl, q⟩
/-! ### the call of a builtin's method: o.m(..) -/
/-- the value is of that builtin type -/
def tyV (K : PySem.W.Frag) (T : String) (x : V) (H : Hp) : Prop := match x with
  | .str _ => T = "str"
  | .int _ => T = "int"
  | .ref p => (T = "list" ∧ ∃ xs, SqL K H p xs) ∨ (T = "tuple" ∧ ((∃ o, K.lookup p = some o ∧ o.cls = .type "tuple" ∧ o.dict = none) ∨ ∃ xs, H p = some (.tup xs))) ∨
      (T = "dict" ∧ ((∃ kvs, H p = some (.dK kvs)) ∨ ∃ kvs, H p = some (.dT kvs))) ∨ (T = "set" ∧ ∃ S n, H p = some (.set S n))
  | _ => False
theorem tyV_is {pins : List (Addr × Obj)} {σ : St} {H : Hp} {s : Shared} {T : String} {x : V} {v : Value} (I : Inv X pins σ H s) (r : RelV x v) (ty : tyV X.K T x H) :
    s.TypeIs v T ∧ ∀ a, v = .ref a → ∃ ob, s.heap.get? a = some ob ∧ ob.dict = none := by
  cases x with
  | str z =>
    obtain ⟨t, rfl⟩ := r
    cases (show T = "str" from ty)
    exact ⟨typeIs_str s z t, fun _ e => nomatch e⟩
  | int i =>
    obtain ⟨t, rfl⟩ := r
    cases (show T = "int" from ty)
    exact ⟨typeIs_int s i t, fun _ e => nomatch e⟩
  | ref p =>
    cases r
    rcases ty with ⟨rfl, xs, hq⟩ | ⟨rfl, ⟨o, hk, hc, hd⟩ | ⟨xs, hq⟩⟩ | ⟨rfl, hk⟩ | ⟨rfl, S, n, hk⟩
    · obtain ⟨its, _, pl, _⟩ := I.list hq
      refine ⟨pl.isList.typeIs, fun a e => ?_⟩
      cases e
      obtain ⟨o, n, e, c, hd, _⟩ := pl
      exact ⟨o, e, hd⟩
    · refine ⟨⟨o, I.kIn p o hk, hc⟩, fun a e => ?_⟩
      cases e
      exact ⟨o, I.kIn _ o hk, hd⟩
    · obtain ⟨⟨_, on, en, dn⟩, _, _, o, e1, e2, _⟩ := (show ObjOk X.prog X.w H s.heap p (.tup xs) from I.hok p _ hq)
      refine ⟨⟨o, e1, e2⟩, fun a e => ?_⟩
      cases e
      exact ⟨on, en, dn⟩
    · have z : ∃ o, s.heap.get? p = some o ∧ o.ExactDict := by
        rcases hk with ⟨kvs, hk⟩ | ⟨kvs, hk⟩
        · obtain ⟨_, _, _, _, o, _, _, e, ex, _⟩ := I.hok p _ hk
          exact ⟨o, e, ex⟩
        · obtain ⟨_, _, _, _, o, _, _, e, ex, _⟩ := I.hok p _ hk
          exact ⟨o, e, ex⟩
      obtain ⟨o, e, ex⟩ := z
      refine ⟨⟨o, e, ex.1⟩, fun a e2 => ?_⟩
      cases e2
      exact ⟨o, e, ex.2.1⟩
    · obtain ⟨o, _, _, _, e, ex, _⟩ := I.hok p _ hk
      refine ⟨⟨o, e, ex.1⟩, fun a e2 => ?_⟩
      cases e2
      exact ⟨o, e, ex.2.1⟩
  | _ => exact False.elim ty
def tBM (K : PySem.W.Frag) (T : String) (r : V → List V → Hp → VK → Prop) (to : TE) (t : TA) : TE := fun σ H Q => to σ H fun x H1 => tyV K T x H1 ∧ t σ H1 fun xs H2 => r x xs H2 Q
variable {o e : Expr} {es : List Expr} {to : TE} {t : TA} {name : Str} {apos cpos : Pos} {T id : String} {r : V → List V → Hp → VK → Prop}
theorem pe_bm (pa : PlainAttrs T) (slot : Slot T name id) (hty : typeOf (.builtin id) = pure (.type "method_descriptor")) (hm : MtR X id r) (ho : PE X o to) (ha : PA X (e :: es) t)
    (hbase : attributeBase o name X.env (eval o X.env) = eval o X.env := by rfl)
    (hfew : ((backTo cpos (starEach (e :: es) X.env)).all (fun x => !x.1) && (backToKw cpos (keywordEach [] X.env)).all (fun x => x.1.isSome)
      && decide ((e :: es).length + ([] : List Keyword).length + (if ([] : List Keyword).isEmpty then 0 else 1) < 30)) = true := by rfl)
    (hline : (apos.endLine == cpos.line) = true := by rfl) (hs : starEach (e :: es) X.env = (false, eval e X.env) :: starEach es X.env := by rfl) (hplain : (backTo cpos (starEach es X.env)).any (·.1) = false := by rfl) :
    PE X (.Call (.Attribute o name apos) (e :: es) [] cpos) (tBM X.K T r to t) := by
  intro pins s σ H Q I h
  refine wpAny_Call_method_late hbase hfew hline rfl (thn (ho pins s σ H _ I h) fun v s1 ⟨x, H1, I1, r1, ty, q1⟩ => ?_)
  obtain ⟨h1, h2⟩ := tyV_is I1 r1 ty
  refine ⟨T, id, pa, slot, hty, h1, h2, ?_⟩
  have hA := ha cpos pins s1 σ H1 _ I1 q1
  rw [hs] at hA ⊢
  refine Calls.callWith_builtin (by show (false || (backTo cpos (starEach es X.env)).any (·.1)) = false; rw [hplain] <;> rfl) (Calls.evalArgs_plain ?_)
  exact thn hA fun us s2 ⟨vs, H2, I2, r2, q2⟩ => hm pins s2 σ H2 x vs v us Q I2 r1 r2 q2
/- xs.append(e), list.index on a module's tuple .. are MtR facts of 06m -/
end
end L2
namespace L2
open PySem PySem.Spec PyProof.Rows
def MtM (X : Cx) (id : String) (r : V → List V → Hp → VK → Prop) : Prop :=
  ∀ (pins : List (Addr × Obj)) (s : Shared) (σ : St) (H : Hp) (x : V) (xs : List V) (v : Value) (us : List Value) (Q : VK), Inv X pins σ H s → RelV x v → Vals xs us → r x xs H Q →
    wpAny (model X.prog X.w) X.A (call (.builtin id) (v :: us)) (EP X pins σ Q) X.xe s
/-! ### lists of values -/
theorem Vals.one : ∀ {x : V} {us : List Value}, Vals [x] us → ∃ u, us = [u] ∧ RelV x u
  | _, _, .cons r .nil => ⟨_, rfl, r⟩
section
variable {X : Cx} {pins : List (Addr × Obj)} {σ : St} {H : Hp} {s : Shared} {l b : Addr} {xs ys zs : List V}
/-! ### the two steps: a tracked list is rewritten, a new list is laid -/
theorem Inv.lset {its its' : List Value} {n : Nat} {f : Array Value → Array Value} {t' : Nat} (I : Inv X pins σ H s) (hH : H l = some (.lst xs))
    (e : s.heap.get? l = some { cls := .type "list", data := .seq its.toArray n }) (hf : f its.toArray = its'.toArray) (hv : Vals ys its') (hz : ys.length ≤ sizeLine) :
    Inv X pins σ (upd H l (.lst ys)) { s with heap := s.heap.update l (Obj.mapSeq f), toks := t' } := by
  have q := PySem.IsL.update e f
  rw [hf] at q
  refine I.write (x := l) (e := l) (by rw [hH]; exact trivial) (.inl rfl) (fun b' u hb hu => (Heap.get?_update_other s.heap (Obj.mapSeq f) (Ne.symm hb)).trans hu) ⟨_, q⟩ ?_
  exact ⟨hz, its', _, hv, q⟩
theorem Inv.lnew {its : List Value} {t' : Nat} (I : Inv X pins σ H s) (hv : Vals ys its) (hz : ys.length ≤ sizeLine) :
    Inv X pins σ (upd H s.heap.objs.size (.lst ys)) { s with heap := s.heap.push { cls := .type "list", data := .seq its.toArray }, toks := t' } :=
  I.laid (fun _ _ q => Heap.get?_push_of_some _ q) (Nat.le_refl _) ⟨hz, its, 0, hv, Heap.get?_push_size _ rfl⟩
theorem Inv.fresh (I : Inv X pins σ H s) : H s.heap.objs.size = none := I.hok.fresh (Nat.le_refl _)
theorem Inv.lstM (I : Inv X pins σ H s) (hH : H l = some (.lst xs)) : xs.length ≤ sizeLine ∧ ∃ (its : List Value) (n : Nat), Vals xs its ∧ xs.length = its.length ∧ s.heap.get? l = some { cls := .type "list", data := .seq its.toArray n } := by
  obtain ⟨z, its, n, r, e⟩ := I.hok l _ hH
  exact ⟨z, its, n, r, r.length, e⟩
theorem notLongL {n : Nat} (h : n ≤ sizeLine) : Builtin.List.listTooLong n = false := by
  unfold Builtin.List.listTooLong
  exact decide_eq_false (by omega)
end
section
variable {X : Cx}
/-! ### methods -/
def rAppend : V → List V → Hp → VK → Prop := fun x vs H Q => ∃ l xs y, x = .ref l ∧ vs = [y] ∧ H l = some (.lst xs) ∧ xs.length < sizeLine ∧ Q .non (upd H l (.lst (xs ++ [y])))
theorem mt_append : MtM X "list.append" rAppend := by
  intro pins s σ H x vs v us Q I rx rv h
  obtain ⟨l, xs, y, rfl, rfl, hH, hz, q⟩ := h
  cases rx
  obtain ⟨u, rfl, ru⟩ := rv.one
  obtain ⟨z, its, n, r, hl, e⟩ := I.lstM hH
  refine call_meets F.slot_list_append ⟨_, e, rfl⟩ F.entry_list_append (F.args_list_append_2 _ _) (PySem.list_append l its.toArray n u (by rw [List.size_toArray]; omega)) ⟨e, ?_⟩
  refine ⟨.non, _, I.lset (its' := its ++ [u]) hH e (by simp) (r.append (.cons ru .nil)) ?_, rfl, q⟩
  rw [List.length_append, List.length_singleton]
  omega
def rExtend : V → List V → Hp → VK → Prop := fun x vs H Q => ∃ l b xs zs, x = .ref l ∧ vs = [.ref b] ∧ H l = some (.lst xs) ∧ H b = some (.lst zs) ∧ xs.length + zs.length ≤ sizeLine ∧ Q .non (upd H l (.lst (xs ++ zs)))
theorem mt_extend : MtM X "list.extend" rExtend := by
  intro pins s σ H x vs v us Q I rx rv h
  obtain ⟨l, b, xs, zs, rfl, rfl, hH, hB, hz, q⟩ := h
  cases rx
  obtain ⟨u, rfl, ru⟩ := rv.one
  cases ru
  obtain ⟨z, its, n, r, hl, e⟩ := I.lstM hH
  obtain ⟨z2, its2, n2, r2, hl2, e2⟩ := I.lstM hB
  have hsz : its.toArray.size + its2.toArray.size ≤ sizeLine := by rw [List.size_toArray, List.size_toArray]; omega
  have hlong : ¬ (!its.toArray.isEmpty && Builtin.List.listTooLong (its.toArray.size + its2.toArray.size)) = true := by
    rw [notLongL hsz, Bool.and_false]
    exact Bool.false_ne_true
  refine call_meets F.slot_list_extend ⟨_, e, rfl⟩ F.entry_list_extend (F.args_list_extend_2 _ _)
    (AutoSeq1.list_extend_list_list_0 l its.toArray n b its2.toArray n2 hlong (by rw [List.size_toArray]; omega) (by omega)) ⟨e, e2, ?_⟩
  refine ⟨.non, _, I.lset (its' := its ++ its2) hH e (by simp) (r.append r2) ?_, rfl, q⟩
  rw [List.length_append]
  omega
/-! ### list + list, list += list, list * int -/
def rCat : R2 := fun x y H Q => ∃ l b xs zs, x = .ref l ∧ y = .ref b ∧ H l = some (.lst xs) ∧ H b = some (.lst zs) ∧ xs.length + zs.length ≤ sizeLine ∧ ∀ p, H p = none → Q (.ref p) (upd H p (.lst (xs ++ zs)))
theorem op_cat : OpR X (binaryOp .Add) rCat := by
  intro pins s σ H x y v u Q I rx ry h
  obtain ⟨l, b, xs, zs, rfl, rfl, hH, hB, hz, q⟩ := h
  cases rx
  cases ry
  obtain ⟨z, its, n, r, hl, e⟩ := I.lstM hH
  obtain ⟨z2, its2, n2, r2, hl2, e2⟩ := I.lstM hB
  refine PySem.P.add_list e e2 ?_ (by rw [List.size_toArray, List.size_toArray]; omega)
  have ea : its.toArray ++ its2.toArray = (its ++ its2).toArray := by simp
  rw [ea]
  exact ⟨.ref _, _, I.lnew (t' := s.toks) (r.append r2) (by rw [List.length_append]; omega), rfl, q _ I.fresh⟩
end
/-! ### xs[a:b] = ys -/
section
variable {prog : Program} {w : World} {A : Around} {E : Value → Shared → Prop} {s : Shared}
end
section
variable {X : Cx}
end
end L2
namespace Att
open PySem PySem.W PySem.Calls PyProof.Rows
/-! ### the script -/
theorem ints_of_wellAll {P : Params} {h : Heap} : ∀ (ns : List Int) (vs : List Value), WellAll P h vs (ns.map WData.int) → IntsAre vs ns := by
  intro ns
  induction ns with
  | nil =>
    intro vs w
    rw [List.map_nil] at w
    cases w
    exact .nil
  | cons n ns ih =>
    intro vs w
    rw [List.map_cons] at w
    cases w with
    | cons a b =>
      cases a
      exact .cons _ _ (ih _ b)
theorem script_of {l : OpenLaw} {n : Nat} (hn : l.most = some n) {P : Params} {h : Heap} {args : List WData} {vals : List Value}
    (hpre : l.row.toRowW.claim.pre args = true) (hwl : WellAll P h vals args) :
    ∃ a vs ns, vals = [Value.ref a] ∧ args = [WData.list (ns.map WData.int)] ∧ h.get? a = some { cls := .type "list", data := .seq vs.toArray } ∧ IntsAre vs ns ∧ ns.length ≤ n := by
  have hsh : WShape.hasAll [] args [.list .int] = true := (pre_splitW hpre).1
  have hc : l.pre.holds [] { args := args } = true := (pre_splitW hpre).2
  obtain ⟨d, r, rfl, h1, h2⟩ := hasAllW_cons hsh
  obtain rfl := hasAllW_nil h2
  obtain ⟨xs, rfl, h3⟩ := hasW_list h1
  obtain ⟨ns, rfl⟩ := items_int h3
  have hlen : ns.length ≤ n := by
    unfold OpenLaw.pre at hc
    have h4 : (WTm.not (.lt (.lit (.int (n : Int))) (.len (.arg 0)))).holds [] { args := [.list (ns.map .int)] } = true := by
      have h4 := (holds_andW hc).1
      rw [hn] at h4
      exact h4
    have h5 := condW_of h4 (w_not (w_lt w_lit (w_len_list (w_arg rfl))))
    rw [List.length_map] at h5
    refine Nat.le_of_not_lt fun q => ?_
    have q' : (n : Int) < ((ns.length : Nat) : Int) := by omega
    first
      | (rw [decide_eq_true q'] at h5; exact absurd h5 (by decide))
      | (simp at h5; omega)
  cases hwl with
  | cons w1 w2 =>
    cases w2
    cases w1 with
    | list ho hall => exact ⟨_, _, ns, rfl, rfl, ho, ints_of_wellAll ns _ hall, hlen⟩
theorem post_true (l : OpenLaw) (args : List WData) : l.row.toRowW.claim.post args (.bool true) args = true :=
  postW_of (r := l.row.toRowW) (X := (true == true))
    (show WShape.has [] (.bool true) .bool = true by first | rfl | decide | simp [WShape.has, WShape.arms, WShape.armsAll])
    (show (WTm.eq .res (.lit (.bool true))).value [] { args := args, res := some (.bool true), after := args } = some (.bool (true == true)) from w_eq_bool (w_res rfl) w_lit) rfl
/-- the same from a codeAny of the CALL (for a layer whose function contracts speak of calls) -/
theorem attach_call {l : OpenLaw} {n : Nat} {q : Program} {loose : List Str} {XP : (Str → Option Value) → Heap → Prop} {YP : World → Heap → Prop} {d : DefRec}
    (hn : l.most = some n) (hdf : d.params.defaults = [])
    (call : ∀ (w : World) (s₀ s₁ : Shared) (mg mb : Str → Option Value) (fa : Addr) (o : Obj) (pm cd doc : Value) (a : Addr) (vs : List Value) (ns : List Int),
      Ground q loose [] XP w s₀ mg mb s₁.heap → YP w s₁.heap →
      s₁.heap.get? fa = some o → o.data = .func (docDef d.name d.params d.body d.scope pm cd doc) → s₁.heap.CodeRec cd d.name → mg d.name = some (.ref fa) →
      s₁.heap.get? a = some { cls := .type "list", data := .seq vs.toArray } → IntsAre vs ns → ns.length ≤ n → s₁.gens = #[] →
      codeAny (model l.prog w) callerA (.call (.ref fa) ⟨[.ref a], []⟩) (fun r s' => r = .ok (.ret (.bool true)) ∧ OldK s₁.heap s'.heap ∧ s'.os = s₁.os ∧ AllBare s'.gens) s₁) :
    WalkO q loose XP YP l.row.toRowW d [] (fun f vs => PySem.call f vs) := by
  intro w s₀ s₁ mg mb G Y fa o pm cd doc dV kV ho hd hcd hD hmg hg args vals as hpre hlay hrd hwl hlo
  obtain rfl : dV = .none := Dflts.none hD hdf
  obtain rfl : kV = .none := Dflts.noKw hD
  obtain ⟨a, vs, ns, rfl, rfl, hobj, hints, hlen⟩ := script_of hn hpre hwl
  refine enter_call (codeAny_mono (call w s₀ s₁ mg mb fa o pm cd doc a vs ns G Y ho (fd_plain hd) hcd hmg hobj hints hlen hg) fun r s' hq => ?_)
  obtain ⟨rfl, h2, h3, h4⟩ := hq
  exact ⟨.inl ⟨.bool true, .bool true, [], rfl, fun _ => rfl, .bool true, post_true l _, fun _ => ⟨List.Pairwise.nil, fun _ hm => (nomatch hm)⟩⟩, h2, h3, h4⟩
/-! ### rules over ANY heap (no ledger) from facts about the written part K: the library's own take a ledger (News) for what they write -/
section
variable {prog : Program} {w : World} {A : Around} {E : Value → Shared → Prop} {s : Shared} {K : Frag}
end
end Att
namespace L2
open PySem PySem.Spec PyProof.Rows
theorem vals_ints : ∀ {vs : List Value} {ns : List Int}, IntsAre vs ns → Vals (ns.map V.int) vs
  | _, _, .nil => .nil
  | _, _, .cons n t h => .cons ⟨t, rfl⟩ (vals_ints h)
/-- nothing is tracked but the script, known to the object (or it is an object of the module) -/
def Only (H : Hp) : Prop := ∀ b, H b = none ∨ ∃ o xs, H b = some (.frz o (.lst xs))
/-- THE HEAD: the law's promise, at the heap behind the top. F, the promise of the law's def, may use that base is part of the heap (so K.In base, base.Ns mainGlobals mg stand in Mod) -/
theorem law_call {P : Program} {w : World} {K : PySem.W.Frag} {mg mb : Str → Option Value} {CX : CXT} {k : Nat} {fa a : Addr} {fd : FuncData} {x : Str} {sp : Sp} {s₁ : Shared} {vs : List Value} {ns : List Int}
    (KX : K.In s₁.heap) (hns : s₁.heap.Ns mainGlobals mg) (hb : s₁.heap.Ns builtinsNs mb) (hbb : ∀ x : Str, x ≠ "__name__" → mb x = bootBuiltins x) (hlim : s₁.heap.NoLimit) (hg : s₁.gens = #[])
    (ha : s₁.heap.get? a = some { cls := .type "list", data := .seq vs.toArray }) (hi : IntsAre vs ns) (hl : ns.length ≤ sizeLine) (hr : Room k callerA)
    (F : ∀ base : Heap, K.In base → base.Ns mainGlobals mg → FnOk P w K mg base CX k fa fd [x] sp) (hbind : ∀ (s : Shared) (u : Value), BindsTo s fd ⟨[u], []⟩ [(x, u)])
    (hsp : ∀ H : Hp, Only H → SqL K H a (ns.map V.int) → sp [.ref a] H (fun v _ => v = .bl true) fun _ _ _ => False)
    (hCX : ∀ H e s', CX [] H s₁ (fun _ _ _ => False) e s' → False) :
    codeAny (model P w) callerA (.call (.ref fa) ⟨[.ref a], []⟩) (fun r s' => r = .ok (.ret (.bool true)) ∧ OldK s₁.heap s'.heap ∧ s'.os = s₁.os ∧ AllBare s'.gens) s₁ := by
  have rv := vals_ints hi
  have lenV := hi.length
  -- from an abstract heap in which nothing but the script may be tracked
  have core : ∀ H : Hp, Only H → SqL K H a (ns.map V.int) → HOk P w H s₁.heap → (∀ b, H b ≠ none → b = a) → (H a ≠ none → K.lookup a = none) →
      codeAny (model P w) callerA (.call (.ref fa) ⟨[.ref a], []⟩) (fun r s' => r = .ok (.ret (.bool true)) ∧ OldK s₁.heap s'.heap ∧ s'.os = s₁.os ∧ AllBare s'.gens) s₁ := by
    intro H hO hS hok hA hK
    have base_of : ∀ {b : Addr} {o : Obj}, s₁.heap.get? b = some o → H b = none → (hidT s₁.heap H).get? b = some o := fun e n => hidT_get e n
    have noA : ∀ {b : Addr} {o : Obj} {es : Array DictEntry} {ep : Nat}, s₁.heap.get? b = some o → o.data = .dict es ep → H b = none := fun {b o es ep} e d => by
      cases q : H b with
      | none => rfl
      | some u =>
        have e' : b = a := hA b (by rw [q]; simp)
        subst e'
        rw [ha] at e; cases e
        have d' : Data.seq vs.toArray _ = Data.dict es ep := d
        cases d'
    have nsK : ∀ {b : Addr} {m : Str → Option Value}, s₁.heap.Ns b m → (hidT s₁.heap H).Ns b m := fun {b m} ⟨o, es, ep, e, d, r⟩ => ⟨o, es, ep, base_of e (noA e d), d, r⟩
    have hKb : K.In (hidT s₁.heap H) := fun b o e => base_of (KX b o e) (by
      cases q : H b with
      | none => rfl
      | some u =>
        have e' : b = a := hA b (by rw [q]; simp)
        subst e'
        rw [hK (by rw [q]; simp)] at e; cases e)
    have hM : Mod K mg (hidT s₁.heap H) := ⟨hKb, nsK hns, ⟨mb, nsK hb, hbb⟩, let ⟨mc, h1, h2⟩ := hlim; ⟨mc, nsK h1, h2⟩⟩
    have e0 : Env0 P w K mg (hidT s₁.heap H) callerA [] s₁ H := ⟨rfl, hM, fun b o e => of_hidT e, Nat.le_of_eq (hidT_size _ _), trivial, fun b hb => absurd (show b ∈ ([] : List Addr) from hb) (by simp), hok, .of_eq hg⟩
    refine codeAny_mono ((F _ hKb (nsK hns)).run callerA [] s₁ H ⟨[.ref a], []⟩ [.ref a] [.ref a] _ _ hr e0 (hbind s₁ (.ref a)) (.cons rfl .nil) (hsp H hO hS)) fun r s' h => ?_
    cases r with
    | error e => exact (hCX H e s' h).elim
    | ok fl =>
      cases fl with
      | next => exact False.elim h
      | brk => exact False.elim h
      | cont => exact False.elim h
      | ret u =>
        obtain ⟨v, H', os, bare, un, hok', r', q⟩ := h
        have q' : v = .bl true := q
        subst q'
        obtain rfl : u = Value.bool true := r'
        refine ⟨rfl, OldK.of_keep fun b o e => ?_, os, bare⟩
        cases q : H b with
        | none => exact un.keep b o e q (by intro z; exact absurd (show b ∈ ([] : List Addr) from z) (by simp)) (by simp)
        | some u =>
          rcases hO b with z | ⟨ob, xs, z⟩
          · rw [q] at z; cases z
          · have z2 := un.frzs b ob _ z
            obtain ⟨e1, _⟩ := hok b _ z
            obtain ⟨e2, _⟩ := hok' b _ z2
            rw [e] at e1; cases e1
            exact e2
  cases hk : K.lookup a with
  | some o =>
    -- the script is one of the module's own objects
    have e := KX a o hk
    rw [ha] at e
    cases e
    refine core (fun _ => none) (fun _ => .inl rfl) (.inr ⟨_, vs.toArray, _, hk, rfl, rfl, rfl, by rw [List.size_toArray, lenV]; exact hl, by simpa using rv⟩) (fun b u z => by have z' : (none : Option HO) = some u := z; cases z') (fun b z => absurd rfl z) fun z => absurd rfl z
  | none =>
    refine core (fun b => if b = a then some (.frz { cls := .type "list", data := .seq vs.toArray } (.lst (ns.map V.int))) else none) (fun b => ?_) (.inl (.inr ⟨{ cls := .type "list", data := .seq vs.toArray }, if_pos rfl⟩)) (fun b u z => ?_) (fun b z => ?_) fun _ => hk
    · by_cases hb : b = a
      · exact .inr ⟨_, _, if_pos hb⟩
      · exact .inl (if_neg hb)
    · by_cases hb : b = a
      · have z' := (if_pos hb).symm.trans z
        cases z'
        subst hb
        exact ⟨ha, by rw [List.length_map]; exact hl, vs, _, rv, ha⟩
      · have z' := (if_neg hb).symm.trans z
        cases z'
    · by_cases hb : b = a
      · exact hb
      · exact absurd (if_neg hb) z
end L2
namespace L2
open PySem PySem.Spec PyProof.Rows
/-- the goal that k_head leaves (case hc), from the law's promise. F gives the function object fd (K's own) once, then the promise over every base -/
theorem walk_of {l : PySem.W.OpenLaw} {n k : Nat} {q : Program} {loose : List Str} {XP : (Str → Option Value) → Heap → Prop} {YP : World → Heap → Prop} {d : DefRec} {K : Params → PySem.W.Frag} {CX : World → CXT} {sp : World → Sp} {x : Str}
    (hn : l.most = some n) (hn2 : n ≤ sizeLine) (hdf : d.params.defaults = []) (hr : Room k callerA)
    (hY : ∀ (w : World) (h : Heap), YP w h → (K w.params).In h)
    (F : ∀ (w : World) (mg : Str → Option Value) (fa : Addr) (h : Heap), (K w.params).In h → h.Ns mainGlobals mg → mg d.name = some (.ref fa) →
      ∃ fd : FuncData, (∀ (s : Shared) (u : Value), BindsTo s fd ⟨[u], []⟩ [(x, u)]) ∧
        ∀ base : Heap, (K w.params).In base → base.Ns mainGlobals mg → FnOk l.prog w (K w.params) mg base (CX w) k fa fd [x] (sp w))
    (hsp : ∀ (w : World) (H : Hp) (a : Addr) (ns : List Int), ns.length ≤ n → Only H → SqL (K w.params) H a (ns.map V.int) → sp w [.ref a] H (fun v _ => v = .bl true) fun _ _ _ => False)
    (hCX : ∀ (w : World) (H : Hp) (s : Shared) (e : Value) (s' : Shared), CX w [] H s (fun _ _ _ => False) e s' → False) :
    PySem.W.WalkO q loose XP YP l.row.toRowW d [] (fun f vs => PySem.call f vs) := by
  refine Att.attach_call hn hdf fun w s₀ s₁ mg mb fa o pm cd doc a vs ns G Y ho hd hcd hmg hobj hints hlen hg => ?_
  have KX := hY w _ Y
  obtain ⟨fd, hb, hF⟩ := F w mg fa _ KX G.T.g hmg
  exact law_call KX G.T.g G.T.b G.T.builtins G.T.nolimit hg hobj hints (Nat.le_trans hlen hn2) hr hF hb (fun H hO hS => hsp w H a ns hlen hO hS) fun H e s' => hCX w H s₁ e s'
/-- the same where the promise hangs on the written part alone: (sp := My.sp_law), no hole under a binder -/
theorem walk_ofK {l : PySem.W.OpenLaw} {n k : Nat} {q : Program} {loose : List Str} {XP : (Str → Option Value) → Heap → Prop} {YP : World → Heap → Prop} {d : DefRec} {K : Params → PySem.W.Frag} {CX : CXT} {sp : PySem.W.Frag → Sp} {x : Str}
    (hn : l.most = some n) (hn2 : n ≤ sizeLine) (hdf : d.params.defaults = []) (hr : Room k callerA)
    (hY : ∀ (w : World) (h : Heap), YP w h → (K w.params).In h)
    (F : ∀ (w : World) (mg : Str → Option Value) (fa : Addr) (h : Heap), (K w.params).In h → h.Ns mainGlobals mg → mg d.name = some (.ref fa) →
      ∃ fd : FuncData, (∀ (s : Shared) (u : Value), BindsTo s fd ⟨[u], []⟩ [(x, u)]) ∧
        ∀ base : Heap, (K w.params).In base → base.Ns mainGlobals mg → FnOk l.prog w (K w.params) mg base CX k fa fd [x] (sp (K w.params)))
    (hsp : ∀ (K : PySem.W.Frag) (H : Hp) (a : Addr) (ns : List Int), ns.length ≤ n → Only H → SqL K H a (ns.map V.int) → sp K [.ref a] H (fun v _ => v = .bl true) fun _ _ _ => False)
    (hCX : ∀ (H : Hp) (s : Shared) (e : Value) (s' : Shared), CX [] H s (fun _ _ _ => False) e s' → False) :
    PySem.W.WalkO q loose XP YP l.row.toRowW d [] (fun f vs => PySem.call f vs) :=
  walk_of (K := K) (CX := fun _ => CX) (sp := fun w => sp (K w.params)) hn hn2 hdf hr hY F (fun w H a ns h1 h2 h3 => hsp (K w.params) H a ns h1 h2 h3) fun _ H s e s' => hCX H s e s'
end L2
/- THE LAST THEOREM (shape; LID, My.* are yours):
   My.Adr: a structure of the addresses that your layer names (classes, functions); My.Txt K t: a structure (Prop) of the equations over K;
   My.txt_mk : {K} {implicit addresses ..} (e1 : nsIn K mainGlobals "law" = some (some (.ref f))) (e2 : K.lookup f = some ⟨oc, od, .func (fnOf "law" "law" params body scope dV kV doc pm an cdv ct), sl⟩) (e3 : codeIn K cdv "law" = true) .. : ∃ t, My.Txt K t
set_option maxRecDepth 100000 in
set_option maxHeartbeats 0 in
theorem PySem.Challenge.cw_LID_holds : PySem.Challenge.rw_LID.Holds := by
  w_on; o_law; k_head; (case hw => w_witness2)
  k_fill
  refine L2.walk_of (l := PySem.Challenge.rw_LID) (n := 63) (k := 40) (x := "script") (CX := fun w => ..) (sp := fun _ => My.sp_law) rfl (by decide) rfl ⟨rfl, by decide, by decide⟩ (fun w h Y => PySem.W.kIn_of Y) ?F ?S ?C
  case F =>
    intro w mg fa h KX G hmg
    have T : ∃ t, My.Txt (L2.KOf KX) t := by
      dsimp only [L2.KOf]                          -- K must stand as «<heap const> w.params» for k_is
      refine' My.txt_mk ?e1 ?e2 ?e3 ..
      (case e1 => PySem.W.k_is)                    -- in the order: a name -> its address -> its object -> its parts
      (case e2 => PySem.W.k_is)
      ..
    obtain ⟨t, T⟩ := T
    have e0 := hmg.symm.trans (PySem.W.mg_of KX G T.law)
    cases e0                                       -- fa is the law's own address
    exact ⟨_, fun s u => .of_eq rfl, fun base kb nb => My.law_fn T kb nb⟩     -- if «.of_eq rfl» comes too early: refine' ⟨_, ?b, fun base kb nb => My.law_fn T kb nb⟩; exact fun s u => .of_eq rfl
  case S => exact fun w H a ns hl hO hS => ..
  case C => exact ..
(the tactic k_is has no namespace: write k_is) -/
/-! SHORT WORDS over the layer: a def of the text, its body, what a loop and a test want. -/
namespace L2
open PySem PySem.Spec PyProof.Rows
def defArgs (s : Stmt) : Arguments := match s with
  | .FunctionDef _ a _ _ _ _ _ _ _ _ => a
  | _ => { posonlyargs := [], args := [], vararg := none, kwonlyargs := [], kw_defaults := [], kwarg := none, defaults := [] }
def defBody (s : Stmt) : List Stmt := match s with
  | .FunctionDef _ _ b _ _ _ _ _ _ _ => b
  | _ => []
def defScope (s : Stmt) : Scope := match s with
  | .FunctionDef _ _ _ _ _ _ sc _ _ _ => sc
  | _ => { kind := .function, names := [], isGenerator := false, isCoroutine := false }
/-! ### no exception leaves a def -/
abbrev CX0 : CXT := fun _ _ _ _ _ _ => False
abbrev E0 : XK := fun _ _ _ => False
theorem pass0 {X : Cx} : Passes CX0 X E0 := fun _ _ _ _ _ _ _ h => h.elim
/-! ### a def (or method) of the text as it stands behind the top -/
structure Fun (K : PySem.W.Frag) (x qual : Str) (st : Stmt) (f : Addr) (fd : FuncData) : Prop where
  ex : ∃ (oc : Value) (od : Option Addr) (kV doc pm : Value) (an : Option Addr) (cdv ct : Value) (osl : Array (Option Value)),
    fd = PySem.W.fnOf x qual (defArgs st) (defBody st) (defScope st) .none kV doc pm an cdv ct ∧ K.lookup f = some ⟨oc, od, .func fd, osl⟩ ∧ PySem.W.codeIn K cdv qual = true
  kp : PySem.W.keepIn K (.ref f) = true
section
variable {P : Program} {w : World} {K : PySem.W.Frag} {mg : Str → Option Value} {base : Heap}
/-- THE RULE for a def: its body as a term of rules, and the reading of that term -/
theorem Fun.ok {x qual : Str} {st : Stmt} {f : Addr} {fd : FuncData} {N ps : List Str} {k : Nat} {sp : Sp} (F : Fun K x qual st f fd) (S : FnScope N ps (defScope st)) (len : ∀ vs H Q E, sp vs H Q E → vs.length = ps.length)
    (hbody : ∀ (cdv : Value) (A : Around) (outer : List Env) (s : Shared) (H : Hp) (vs : List V) (Q : VK) (E : XK), Room k (A.deeper (envOfC qual (defScope st) s.heap.objs.size f cdv)) → sp vs H Q E →
      ∃ t, PSs (cxOf CX0 P w K mg base N qual (defScope st) f cdv A outer s H E).nox (defBody st) t ∧ t { nx := fun _ H' => Q .non H', rt := Q } (start N vs) H) : FnOk P w K mg base CX0 (k + 1) f fd ps sp := by
  obtain ⟨oc, od, kV, doc, pm, an, cdv, ct, osl, rfl, lk, hcd⟩ := F.ex
  refine fn_of lk hcd S len fun A outer s H vs Q E hr hsp => ?_
  obtain ⟨t, h, q⟩ := hbody cdv A outer s H vs Q E hr hsp
  exact ⟨t, h.nox, q⟩
/-- how its arguments bind (no defaults): h is «fun _ _ _ _ _ _ us hl => match us, hl with | [_, _], _ => rfl», one _ a parameter -/
theorem Fun.binds {x qual : Str} {st : Stmt} {f : Addr} {fd : FuncData} {ps : List Str} (F : Fun K x qual st f fd)
    (h : ∀ (kV doc pm : Value) (an : Option Addr) (cdv ct : Value) (us : List Value), us.length = ps.length → bindArgs (PySem.W.fnOf x qual (defArgs st) (defBody st) (defScope st) .none kV doc pm an cdv ct) ⟨us, []⟩ = pure (ps.zip us)) : Binds K fd ps [] := by
  obtain ⟨oc, od, kV, doc, pm, an, cdv, ct, osl, rfl, lk, hcd⟩ := F.ex
  exact .all (h kV doc pm an cdv ct)
theorem fun_mk {x qual : Str} {st : Stmt} {f : Addr} {oc : Value} {od an : Option Addr} {osl : Array (Option Value)} {kV doc pm cdv ct : Value} (l : K.lookup f = some ⟨oc, od, .func (PySem.W.fnOf x qual (defArgs st) (defBody st) (defScope st) .none kV doc pm an cdv ct), osl⟩)
    (c : PySem.W.codeIn K cdv qual = true) (k : PySem.W.keepIn K (.ref f) = true) : Fun K x qual st f (PySem.W.fnOf x qual (defArgs st) (defBody st) (defScope st) .none kV doc pm an cdv ct) := ⟨⟨oc, od, kV, doc, pm, an, cdv, ct, osl, rfl, l, c⟩, k⟩
end
theorem small1000 {n : Nat} (h : n ≤ 1000) : n < sizeLine := Nat.lt_of_le_of_lt h (by decide)
/-! ### expressions in short: the name that stands in the i-th slot -/
section
variable {X : Cx}
theorem pv (i : Nat) {x : Str} {pos : Pos} (hN : X.N[i]? = some x := by rfl) (hv : Vis X.env.scope x := by first | exact Or.inl rfl | exact Or.inr (Or.inl rfl) | exact Or.inr (Or.inr rfl)) (hd : (x == ("__debug__" : Str)) = false := by decide)
    (hcd : (x == ("__classdict__" : Str)) = false := by decide) : PE X (.Name x pos) (tVar i) := pe_var hN hv hd hcd
end
/-! ### tests -/
theorem iteF {A B : Prop} (h : B) : if false = true then A else B := by
  rw [if_neg Bool.false_ne_true]
  exact h
theorem iteT {A B : Prop} (h : A) : if true = true then A else B := by
  rw [if_pos rfl]
  exact h
theorem ite2 {c A B : Prop} [Decidable c] (h1 : c → A) (h2 : ¬ c → B) : if c then A else B := by
  by_cases h : c
  · rw [if_pos h]
    exact h1 h
  · rw [if_neg h]
    exact h2 h
theorem iteNS {c A B : Prop} [Decidable c] (hc : c) (h : B) : if (!decide c) = true then A else B := by
  rw [decide_eq_true hc]
  exact iteF h
/-! ### heaps -/
/-- all that was tracked is as it was -/
def Same (H H' : Hp) : Prop := ∀ b o, H b = some o → H' b = some o
theorem Same.refl (H : Hp) : Same H H := fun _ _ h => h
theorem Same.trans {H H1 H2 : Hp} (a : Same H H1) (b : Same H1 H2) : Same H H2 := fun c o h => b c o (a c o h)
theorem Same.free {H H' : Hp} (e : Same H H') {l : Addr} (h : H' l = Option.none) : H l = Option.none := by
  cases q : H l with
  | none => rfl
  | some o =>
    rw [e l o q] at h
    cases h
end L2
set_option Elab.async false
set_option linter.all false
set_option maxRecDepth 100000
namespace L2
open PySem PySem.Spec PyProof.Rows
/-! ### lists of pairs as tables -/
section
variable {κ : Type} [DecidableEq κ]
end
section
variable {P : Program} {w : World} {H : Hp} {h : Heap} {a : Addr}
end
section
variable {X : Cx} {pins : List (Addr × Obj)} {σ : St} {H : Hp} {s : Shared} {a : Addr} {y v : V} {u r : Value} {o : Option V} {A : Around} {E : Value → Shared → Prop}
end
section
variable {X : Cx} {pins : List (Addr × Obj)} {σ : St} {H : Hp} {s : Shared} {a : Addr} {kvs : List (Key × V)} {k : Key} {u : Value} {A : Around} {E : Value → Shared → Prop}
end
section
variable {X : Cx} {o i e value : Expr} {pos pos' tpos : Pos} {td ty tv : TE}
end
section
variable {X : Cx} {pos : Pos}
end
section
variable {X : Cx} {pins : List (Addr × Obj)} {σ : St} {H : Hp} {s : Shared} {a : Addr} {y d : V} {u r : Value} {o : Option V} {A : Around} {E : Value → Shared → Prop}
end
section
variable {X : Cx} {o e f : Expr} {apos cpos : Pos} {td ty tx : TE}
end
/-! ### dict(d): a copy -/
section
variable {X : Cx} {pins : List (Addr × Obj)} {σ : St} {H : Hp} {s : Shared} {a : Addr} {kvs : List (Key × V)} {A : Around} {E : Value → Shared → Prop}
end
section
variable {X : Cx} {pins : List (Addr × Obj)} {σ : St} {H : Hp} {s : Shared} {a : Addr} {y : V} {u : Value} {A : Around} {E : Value → Shared → Prop}
end
end L2
namespace L2
open PySem PySem.Spec PyProof.Rows
/-! ### a dict's pairs: keys that differ -/
section
variable {κ : Type} [DecidableEq κ]
end
end L2
set_option Elab.async false
set_option linter.all false
set_option maxRecDepth 100000
namespace L2
open PySem PySem.Spec PyProof.Rows
/-! ### sizes of ints -/
abbrev bits (i : Int) : Nat := Builtin.Int.intBits i
def CDivB (i j : Int) : Prop := 0 < j ∧ bits j ≤ 9000
theorem log_of_bits {j : Int} {n : Nat} (h : bits j ≤ n) (hn : 0 < n) : j.natAbs.log2 < n := by
  unfold bits Builtin.Int.intBits at h
  by_cases hj : (j == 0) = true
  · have : j = 0 := by simpa using hj
    subst this
    exact Nat.lt_of_le_of_lt (by decide +kernel : (0 : Int).natAbs.log2 ≤ 0) hn
  · rw [if_neg hj] at h
    omega
section
variable {X : Cx}
theorem op_fdivB : OpR X (binaryOp .FloorDiv) (rI CDivB fun i j => .int (i / j)) := opI fun i j _ _ _ _ _ hc q => by
  refine floordiv_int (by have := hc.1; omega) ?_ (.inl (PyProof.noPylong_of_log2 (log_of_bits hc.2 (by decide))))
  rw [Int.fdiv_eq_ediv_of_nonneg i (by have := hc.1; omega)]
  exact q
theorem op_mulB : OpR X (binaryOp .Mult) (rI IntMulOk fun i j => .int (i * j)) := opI fun _ _ _ _ _ _ _ hc q => mul_int q hc
end
/-! ### data: what a value reads as -/
mutual
def Rep (H : Hp) : PyData → V → Prop
  | .none, v => v = .non
  | .bool b, v => v = .bl b
  | .int i, v => v = .int i
  | .str x, v => v = .str x
  | .list ds, v => ∃ a xs, v = .ref a ∧ H a = some (.lst xs) ∧ RepL H ds xs
  | .tuple ds, v => ∃ a xs, v = .ref a ∧ H a = some (.tup xs) ∧ RepL H ds xs
  | .dict kvs, v => kvs = [] ∧ ∃ a, v = .ref a ∧ H a = some (.dK [])
def RepL (H : Hp) : List PyData → List V → Prop
  | [], vs => vs = []
  | d :: ds, vs => ∃ x xs, vs = x :: xs ∧ Rep H d x ∧ RepL H ds xs
end
mutual
theorem Rep.same {H H' : Hp} (e : Same H H') : ∀ {d : PyData} {v : V}, Rep H d v → Rep H' d v
  | .none, _, h => h
  | .bool _, _, h => h
  | .int _, _, h => h
  | .str _, _, h => h
  | .list ds, _, h => by
    unfold Rep at h ⊢
    obtain ⟨a, xs, rfl, h1, h2⟩ := h
    exact ⟨a, xs, rfl, e _ _ h1, RepL.same e h2⟩
  | .tuple ds, _, h => by
    unfold Rep at h ⊢
    obtain ⟨a, xs, rfl, h1, h2⟩ := h
    exact ⟨a, xs, rfl, e _ _ h1, RepL.same e h2⟩
  | .dict kvs, _, h => by
    unfold Rep at h ⊢
    obtain ⟨h0, a, rfl, h1⟩ := h
    exact ⟨h0, a, rfl, e _ _ h1⟩
theorem RepL.same {H H' : Hp} (e : Same H H') : ∀ {ds : List PyData} {vs : List V}, RepL H ds vs → RepL H' ds vs
  | [], _, h => h
  | d :: ds, _, h => by
    unfold RepL at h ⊢
    obtain ⟨x, xs, rfl, h1, h2⟩ := h
    exact ⟨x, xs, rfl, Rep.same e h1, RepL.same e h2⟩
end
theorem Rep.tup {H : Hp} {a : Addr} {xs : List V} {ds : List PyData} (h : H a = some (.tup xs)) (r : RepL H ds xs) : Rep H (.tuple ds) (.ref a) := by
  unfold Rep; exact ⟨a, xs, rfl, h, r⟩
theorem Rep.int {H : Hp} (i : Int) : Rep H (.int i) (.int i) := by unfold Rep; rfl
theorem Rep.str {H : Hp} (i : Str) : Rep H (.str i) (.str i) := by unfold Rep; rfl
theorem Rep.non {H : Hp} : Rep H .none .non := by unfold Rep; rfl
theorem RepL.nil {H : Hp} : RepL H [] [] := by unfold RepL; rfl
theorem RepL.cons {H : Hp} {d : PyData} {ds : List PyData} {x : V} {xs : List V} (h : Rep H d x) (hs : RepL H ds xs) : RepL H (d :: ds) (x :: xs) := by
  unfold RepL; exact ⟨x, xs, rfl, h, hs⟩
section
variable {X : Cx} {pins : List (Addr × Obj)} {σ : St} {H : Hp} {s : Shared}
mutual
theorem Rep.reads (I : Inv X pins σ H s) : ∀ {d : PyData} {v : V} {u : Value}, Rep H d v → RelV v u → ∃ as, Reads s.heap u d as
  | .none, _, u, h, r => by
    cases (show _ = V.non from h); cases (show u = Value.none from r); exact ⟨_, .none⟩
  | .bool b, _, u, h, r => by
    cases (show _ = V.bl b from h); cases (show u = Value.bool b from r); exact ⟨_, .bool b⟩
  | .int b, _, u, h, r => by
    cases (show _ = V.int b from h); obtain ⟨t, q⟩ := (show ∃ t, u = Value.int b t from r); cases q; exact ⟨_, .int b t⟩
  | .str b, _, u, h, r => by
    cases (show _ = V.str b from h); obtain ⟨t, q⟩ := (show ∃ t, u = Value.str b t from r); cases q; exact ⟨_, .str b t⟩
  | .list ds, v, u, h, r => by
    unfold Rep at h
    obtain ⟨a, xs, rfl, h1, h2⟩ := h
    cases (show u = Value.ref a from r)
    obtain ⟨_, its, n, r', e⟩ := (show ObjOk X.prog X.w H s.heap a (.lst xs) from I.hok a _ h1)
    obtain ⟨as, q⟩ := RepL.reads I h2 r'
    exact ⟨_, .list e rfl rfl (by simpa using q)⟩
  | .tuple ds, v, u, h, r => by
    unfold Rep at h
    obtain ⟨a, xs, rfl, h1, h2⟩ := h
    cases (show u = Value.ref a from r)
    obtain ⟨_, its, r', o, e, hc, n, hd⟩ := (show ObjOk X.prog X.w H s.heap a (.tup xs) from I.hok a _ h1)
    obtain ⟨as, q⟩ := RepL.reads I h2 r'
    exact ⟨_, .tuple e hc hd (by simpa using q)⟩
  | .dict kvs, v, u, h, r => by
    unfold Rep at h
    obtain ⟨rfl, a, rfl, h1⟩ := h
    cases (show u = Value.ref a from r)
    obtain ⟨_, _, vs, kv, o, es, ep, e, hx, hd, _, hes, _⟩ := (show ObjOk X.prog X.w H s.heap a (.dK []) from I.hok a _ h1)
    cases kv
    have he : es.toList = [] := by
      cases q : es.toList with
      | nil => rfl
      | cons y ys => rw [q] at hes; cases hes
    exact ⟨_, .dict e hx.1 hd (by rw [he]; exact .nil) (by rw [he]; exact .nil)⟩
theorem RepL.reads (I : Inv X pins σ H s) : ∀ {ds : List PyData} {vs : List V} {us : List Value}, RepL H ds vs → Vals vs us → ∃ as, ReadsAll s.heap us ds as
  | [], _, us, h, r => by
    cases (show _ = [] from h); cases r; exact ⟨_, .nil⟩
  | d :: ds, _, us, h, r => by
    unfold RepL at h
    obtain ⟨x, xs, rfl, h1, h2⟩ := h
    cases r with
    | cons r1 r2 =>
      obtain ⟨as, q1⟩ := Rep.reads I h1 r1
      obtain ⟨bs, q2⟩ := RepL.reads I h2 r2
      exact ⟨_, .cons q1 q2⟩
end
end
/-! ### repr -/
section
variable {X : Cx}
theorem call_repr (hg : X.A.guards = some []) (hu : X.A.units + 64 < cLine) : CallR X (.builtin "repr") (fun xs H Q => ∃ x d, xs = [x] ∧ Rep H d x ∧ d.showable = true ∧ d.hasDict = false ∧ d.depth ≤ 60 ∧ d.shown.length ≤ sizeLine ∧ Q (.str d.shown) H) := by
  intro pins s σ H xs us Q I r h
  obtain ⟨x, d, rfl, hr, hs, hnd, hdp, hz, q⟩ := h
  obtain ⟨u, rfl, ru⟩ := vals1 r
  obtain ⟨as, rd⟩ := hr.reads I ru
  cases rd with
  | none => exact PySem.P.repr_of_none ⟨.str _, H, I.tok _, ⟨_, rfl⟩, q⟩
  | bool b => exact PySem.P.repr_of_bool ⟨.str _, H, I.tok _, ⟨_, rfl⟩, q⟩
  | int i t => exact PySem.P.repr_of_int (by simpa [PyData.showable] using hs) ⟨.str _, H, I.tok _, ⟨_, rfl⟩, q⟩
  | str y t => exact PySem.P.repr_of_str ⟨.str _, H, I.tok _, ⟨_, rfl⟩, q⟩ hz
  | list a1 a2 a3 a4 => exact repr_of_reads' (.list a1 a2 a3 a4) hs (PyData.noDict_hsm hnd) hg (by omega) (fun _ _ e => e) (fun h' u tk hk => ⟨.str _, H, I.kept hk, ⟨_, rfl⟩, q⟩) hz
  | tuple a1 a2 a3 a4 => exact repr_of_reads' (.tuple a1 a2 a3 a4) hs (PyData.noDict_hsm hnd) hg (by omega) (fun _ _ e => e) (fun h' u tk hk => ⟨.str _, H, I.kept hk, ⟨_, rfl⟩, q⟩) hz
  | dict a1 a2 a3 a4 a5 => simp [PyData.hasDict] at hnd
end
section
variable {X : Cx}
end
end L2
namespace L2
open PySem PySem.Spec PyProof.Rows
/-! ### a def that is called by its name -/
structure FnC (CX : CXT) (P : Program) (w : World) (K : PySem.W.Frag) (mg : Str → Option Value) (base : Heap) (k : Nat) (x : Str) (ps : List Str) (sp : Sp) : Prop where
  ex : ∃ (f : Addr) (fd : FuncData), FnOk P w K mg base CX k f fd ps sp ∧ mg x = some (.ref f) ∧ PySem.W.keepIn K (.ref f) = true ∧ Binds K fd ps []
section
variable {X : Cx} {k : Nat} {ps : List Str} {sp : Sp} {x : Str} {p pos : Pos} {e : Expr} {es : List Expr} {t : TA}
theorem pe_fn (F : FnC CX0 X.prog X.w X.K X.mg X.base k x ps sp) (hr : Room k X.A) (ha : PA X (e :: es) t) (hg : Gl X x := by rfl)
    (hdb : (x == ("__debug__" : Str)) = false := by decide) (he : starEach (e :: es) X.env = (false, eval e X.env) :: starEach es X.env := by rfl) (hpl : (backTo pos (starEach es X.env)).any (·.1) = false := by rfl) :
    PE X (.Call (.Name x p) (e :: es) [] pos) (tCall sp [] E0 t) := by
  obtain ⟨f, fd, h1, h2, h3, h4⟩ := F.ex
  exact pe_call h1 hr hg h2 h3 h4 .nil pass0 ha hdb he hpl
end
/-! ### subscripts, by cases of the heap -/
section
variable {K : PySem.W.Frag} {H : Hp} {p : Addr} {xs : List V} {i : Int} {v : V} {Q : VK}
theorem ixL (h : H p = some (.lst xs)) (e : atI xs i = some v) (q : Q v H) : rIx K (.ref p) (.int i) H Q := .inl ⟨p, xs, i, v, rfl, rfl, SqL.of h, e, q⟩
theorem ixT (h : H p = some (.tup xs)) (e : atI xs i = some v) (q : Q v H) : rIx K (.ref p) (.int i) H Q := .inr (.inl ⟨p, xs, i, v, rfl, rfl, SqT.of h, e, q⟩)
theorem stL {u : V} {Q : Hp → Prop} {j : Nat} (h : H p = some (.lst xs)) (e : ixN xs.length i = some j) (q : Q (upd H p (.lst (xs.set j u)))) : rSetL (.ref p) (.int i) u H Q := ⟨p, xs, i, j, rfl, rfl, h, e, q⟩
end
/-! ### all but one address -/
def Hide (p : Addr) (H : Hp) : Hp := fun b => if b = p then none else H b
theorem Hide.at {p b : Addr} {H : Hp} (h : b ≠ p) : Hide p H b = H b := by unfold Hide; rw [if_neg h]
theorem Hide.self {p : Addr} {H : Hp} : Hide p H p = none := by unfold Hide; rw [if_pos rfl]
theorem Hide.same {p : Addr} {H : Hp} : Same (Hide p H) H := fun b o h => by
  unfold Hide at h
  by_cases e : b = p
  · rw [if_pos e] at h; cases h
  · rw [if_neg e] at h; exact h
theorem Hide.ne {p b : Addr} {H : Hp} {o : HO} (h : Hide p H b = some o) : b ≠ p := fun e => by
  subst e; rw [Hide.self] at h; cases h
theorem Hide.of {p b : Addr} {H : Hp} {o : HO} (n : b ≠ p) (h : H b = some o) : Hide p H b = some o := by rw [Hide.at n]; exact h
theorem Hide.upd_self {p : Addr} {H : Hp} {o : HO} : Hide p (upd H p o) = Hide p H := by
  funext b
  by_cases e : b = p
  · subst e; rw [Hide.self, Hide.self]
  · rw [Hide.at e, Hide.at e, L2.upd_ne e]
abbrev SameBut (p : Addr) (H H' : Hp) : Prop := Same (Hide p H) (Hide p H')
theorem Same.but {p : Addr} {H H' : Hp} (h : Same H H') : SameBut p H H' := fun b o e => by
  have n := Hide.ne e
  exact Hide.of n (h _ _ (Hide.same _ _ e))
theorem Same.upd {H : Hp} {q : Addr} {o : HO} (h : H q = none) : Same H (upd H q o) := fun b u e => by
  rw [L2.upd_ne (ne_of_none e h)]; exact e
theorem SameBut.self {p : Addr} {H : Hp} {o : HO} : SameBut p H (upd H p o) := by unfold SameBut; rw [Hide.upd_self]; exact Same.refl _
/-- not tracked now, not tracked ahead -/
theorem SameBut.free {p q : Addr} {H H' : Hp} (e : SameBut p H H') (hp : ∃ o, H' p = some o) (h : H' q = none) : H q = none := by
  cases k : H q with
  | none => rfl
  | some o =>
    by_cases n : q = p
    · subst n; obtain ⟨o', h'⟩ := hp; rw [h'] at h; cases h
    · have := Hide.same _ _ (e q o (Hide.of n k)); rw [this] at h; cases h
end L2
namespace L2
open PySem PySem.Spec PyProof.Rows
section
variable {K : PySem.W.Frag} {H : Hp} {p : Addr} {xs : List V} {i : Int} {v : V} {Q : VK}
theorem stG {u : V} {Q : Hp → Prop} {j : Nat} (h : H p = some (.lst xs)) (e : ixN xs.length i = some j) (k : ∀ H', H' p = some (.lst (xs.set j u)) → SameBut p H H' → Q H') : rSetL (.ref p) (.int i) u H Q :=
  stL h e (k _ upd_same SameBut.self)
theorem alT {Q : V → Hp → Prop} (hz : xs.length ≤ sizeLine) (k : ∀ q H', H q = none → H' q = some (.tup xs) → Same H H' → Q (.ref q) H') : xs.length ≤ sizeLine ∧ ∀ p, H p = none → Q (.ref p) (upd H p (.tup xs)) :=
  ⟨hz, fun q hq => k q _ hq upd_same (Same.upd hq)⟩
theorem alL {Q : V → Hp → Prop} (hz : xs.length ≤ sizeLine) (k : ∀ q H', H q = none → H' q = some (.lst xs) → Same H H' → Q (.ref q) H') : xs.length ≤ sizeLine ∧ ∀ p, H p = none → Q (.ref p) (upd H p (.lst xs)) :=
  ⟨hz, fun q hq => k q _ hq upd_same (Same.upd hq)⟩
theorem SameBut.at {p b : Addr} {H H' : Hp} {o : HO} (s : SameBut p H H') (n : b ≠ p) (h : H b = some o) : H' b = some o := Hide.same _ _ (s _ _ (Hide.of n h))
end
theorem small64 {n : Nat} (h : n ≤ 64) : n ≤ sizeLine := Nat.le_trans h (by decide)
theorem iteD {c A B : Prop} [Decidable c] (h1 : c → A) (h2 : ¬ c → B) : if decide c = true then A else B :=
  ite2 (fun h => h1 (of_decide_eq_true h)) (fun h => h2 (fun k => h (decide_eq_true k)))
theorem iteDN {c A B : Prop} [Decidable c] (h1 : ¬ c → A) (h2 : c → B) : if (!decide c) = true then A else B :=
  ite2 (fun h => h1 (fun k => by rw [decide_eq_true k] at h; exact absurd h (by decide))) (fun h => h2 (Decidable.of_not_not fun k => h (by rw [decide_eq_false k]; rfl)))
end L2
namespace L2
open PySem PySem.Spec PyProof.Rows
/-! ### while, by a word with its measure -/
def tMono (c : TT) : TT := fun σ H Q => ∃ Q' : Bool → Hp → Prop, c σ H Q' ∧ ∀ b H1, Q' b H1 → Q b H1
theorem PT.mono {X : Cx} {e : Expr} {c : TT} (h : PT X e c) : PT X e (tMono c) := fun pins s σ H Q I ⟨Q', h1, h2⟩ =>
  thn (h pins s σ H Q' I h1) fun b s' ⟨H', I', q⟩ => ⟨H', I', h2 _ _ q⟩
theorem ps_whileM {X : Cx} {pos : Pos} {c : Expr} {body : List Stmt} {tc : TT} {tb : TS} (hp : PassesOwn (model X.prog X.w) X.A X.env X.xe) (hc : PT X c tc) (hb : PSs X body tb) : PS X (.While c body [] pos) (tWhile (tMono tc) tb) :=
  ps_while hp hc.mono hb
end L2
namespace L2
open PySem PySem.Spec PyProof.Rows
/-! ### named readings of calls -/
@[irreducible] def rLen (K : PySem.W.Frag) : List V → Hp → VK → Prop := fun xs H Q => ∃ x n, xs = [x] ∧ LenV K x H n ∧ Q (.int n) H
@[irreducible] def rAbs : List V → Hp → VK → Prop := fun xs H Q => ∃ i, xs = [.int i] ∧ Q (.int (i.natAbs : Int)) H
@[irreducible] def rRepr : List V → Hp → VK → Prop := fun xs H Q => ∃ x d, xs = [x] ∧ Rep H d x ∧ d.showable = true ∧ d.hasDict = false ∧ d.depth ≤ 60 ∧ d.shown.length ≤ sizeLine ∧ Q (.str d.shown) H
section
variable {X : Cx} {K : PySem.W.Frag} {H : Hp} {p : Addr} {xs : List V} {Q : VK}
theorem cl_len : CallR X (.builtin "len") (rLen X.K) := by unfold rLen; exact call_len
theorem cl_abs : CallR X (.builtin "abs") rAbs := by
  unfold rAbs
  exact fun pins s σ H xs us Q I r ⟨i, e, q⟩ => call_abs pins s σ H xs us Q I r ⟨i, e, by
  have : (if i < 0 then -i else i) = (i.natAbs : Int) := by split <;> omega
  rw [this]; exact q⟩
theorem cl_repr (hg : X.A.guards = some []) (hu : X.A.units + 64 < cLine) : CallR X (.builtin "repr") rRepr := by unfold rRepr; exact call_repr hg hu
theorem rlL (h : H p = some (.lst xs)) (q : Q (.int xs.length) H) : rLen K [V.ref p] H Q := by unfold rLen; exact ⟨_, _, rfl, .inl ⟨xs, SqL.of h, rfl⟩, q⟩
theorem rlT (h : H p = some (.tup xs)) (q : Q (.int xs.length) H) : rLen K [V.ref p] H Q := by unfold rLen; exact ⟨_, _, rfl, .inr ⟨xs, SqT.of h, rfl⟩, q⟩
theorem raI {i : Int} (q : Q (.int (i.natAbs : Int)) H) : rAbs [V.int i] H Q := by unfold rAbs; exact ⟨i, rfl, q⟩
theorem rrI {x : V} {d : PyData} (r : Rep H d x) (h1 : d.showable = true) (h2 : d.hasDict = false) (h3 : d.depth ≤ 60) (h4 : d.shown.length ≤ sizeLine) (q : Q (.str d.shown) H) : rRepr [x] H Q := by unfold rRepr; exact ⟨x, d, rfl, r, h1, h2, h3, h4, q⟩
end
end L2
namespace L2
open PySem PySem.Spec PyProof.Rows
/-- .. with a word R for the state behind the loop (no break) -/
theorem while_r {c : TT} {tb : TS} {D : Ends} {σ : St} {H : Hp} (W : Nat → St → Hp → Prop) (R : St → Hp → Prop) (m : Nat) (h0 : W m σ H)
    (hs : ∀ m σ H, W m σ H → c σ H fun b H1 => if b = true then tb { D with nx := fun σ' H' => ∃ m', m' < m ∧ W m' σ' H', ct := fun σ' H' => ∃ m', m' < m ∧ W m' σ' H', bk := D.nx } σ H1 else R σ H1)
    (hd : ∀ σ H, R σ H → D.nx σ H) : tWhile (tMono c) tb D σ H :=
  ⟨W, ⟨m, h0⟩, fun m σ H hw => ⟨_, hs m σ H hw, fun b H1 q => by
    by_cases hb : b = true
    · rw [if_pos hb] at q ⊢
      exact ⟨_, fun _ _ h => h, q⟩
    · rw [if_neg hb] at q ⊢
      exact hd _ _ q⟩⟩
end L2
namespace L2
open PySem PySem.Spec PyProof.Rows
/-- a word between a statement and what follows it -/
def tCut (t : TS) : TS := fun D σ H => ∃ R : St → Hp → Prop, (∀ σ' H', R σ' H' → D.nx σ' H') ∧ t { D with nx := R } σ H
theorem ps_cut {X : Cx} {st : Stmt} {t : TS} (h : PS X st t) : PS X st (tCut t) := fun pins s σ H D I ⟨R, hR, q⟩ =>
  thn (h pins s σ H _ I q) fun f s' z => by
    cases f with
    | next => obtain ⟨σ', H', I', r⟩ := z; exact ⟨σ', H', I', hR _ _ r⟩
    | brk => exact z
    | cont => exact z
    | ret u => exact z
end L2
namespace L2
open PySem PySem.Spec PyProof.Rows
/-! ### no star among arguments: by the head alone -/
section
variable {es : List Expr} {env : Env}
theorem se_BinOp {a b c d} : starEach (.BinOp a b c d :: es) env = (false, eval (.BinOp a b c d) env) :: starEach es env := by rw [starEach] <;> (intros; contradiction)
theorem se_UnaryOp {a b c} : starEach (.UnaryOp a b c :: es) env = (false, eval (.UnaryOp a b c) env) :: starEach es env := by rw [starEach] <;> (intros; contradiction)
theorem se_ListComp {a b c d} : starEach (.ListComp a b c d :: es) env = (false, eval (.ListComp a b c d) env) :: starEach es env := by rw [starEach] <;> (intros; contradiction)
theorem se_Call {a b c d} : starEach (.Call a b c d :: es) env = (false, eval (.Call a b c d) env) :: starEach es env := by rw [starEach] <;> (intros; contradiction)
theorem se_Constant {a b c} : starEach (.Constant a b c :: es) env = (false, eval (.Constant a b c) env) :: starEach es env := by rw [starEach] <;> (intros; contradiction)
theorem se_Subscript {a b c} : starEach (.Subscript a b c :: es) env = (false, eval (.Subscript a b c) env) :: starEach es env := by rw [starEach] <;> (intros; contradiction)
theorem se_Name {a b} : starEach (.Name a b :: es) env = (false, eval (.Name a b) env) :: starEach es env := by rw [starEach] <;> (intros; contradiction)
theorem se_Tuple {a b c} : starEach (.Tuple a b c :: es) env = (false, eval (.Tuple a b c) env) :: starEach es env := by rw [starEach] <;> (intros; contradiction)
end
section
variable {X : Cx} {k : Nat} {ps : List Str} {sp : Sp} {x : Str} {p pos : Pos} {e : Expr} {es : List Expr} {te : TE} {t : TA} {id T : String} {r : List V → Hp → VK → Prop}
theorem ap_nil {env : Env} : (backTo pos (starEach [] env)).any (·.1) = false := rfl
theorem ap_cons {env : Env} (hs : starEach (e :: es) env = (false, eval e env) :: starEach es env) (h : (backTo pos (starEach es env)).any (·.1) = false) : (backTo pos (starEach (e :: es) env)).any (·.1) = false := by
  rw [hs]
  show (false || (backTo pos (starEach es env)).any (·.1)) = false
  rw [h]; rfl
end
end L2
set_option Elab.async false
set_option linter.all false
set_option maxRecDepth 100000
namespace L2
open PySem PySem.Spec PyProof.Rows
/-! ### the judgements, shut: so that no elaboration looks into them -/
structure PEw (X : Cx) (e : Expr) (t : TE) : Prop where p : PE X e t
structure PTw (X : Cx) (e : Expr) (t : TT) : Prop where p : PT X e t
structure PWw (X : Cx) (e : Expr) (t : TT) : Prop where p : PW X e t
structure PAw (X : Cx) (es : List Expr) (t : TA) : Prop where p : PA X es t
structure PSw (X : Cx) (st : Stmt) (t : TS) : Prop where p : PS X st t
structure PSsw (X : Cx) (st : List Stmt) (t : TS) : Prop where p : PSs X st t
structure PGw (X : Cx) (e : Expr) (t : TG) : Prop where p : PG X e t
structure PGsw (X : Cx) (es : List Expr) (t : TGs) : Prop where p : PGs X es t
structure PIw (X : Cx) (tg iter : Expr) (t : TI) : Prop where p : PI X tg iter t
structure POw (X : Cx) (e : Option Expr) (t : TO) : Prop where p : PO X e t
/-! new tuples and lists -/
@[irreducible] def rNewT (xs : List V) (H : Hp) (Q : VK) : Prop := xs.length ≤ sizeLine ∧ ∀ p, H p = none → Q (.ref p) (upd H p (.tup xs))
@[irreducible] def rNewL (xs : List V) (H : Hp) (Q : VK) : Prop := xs.length ≤ sizeLine ∧ ∀ p, H p = none → Q (.ref p) (upd H p (.lst xs))
theorem nwT {xs : List V} {H : Hp} {Q : VK} (hz : xs.length ≤ 64) (k : ∀ q H', H q = none → H' q = some (.tup xs) → Same H H' → Q (.ref q) H') : rNewT xs H Q := by unfold rNewT; exact alT (small64 hz) k
theorem nwL {xs : List V} {H : Hp} {Q : VK} (hz : xs.length ≤ 64) (k : ∀ q H', H q = none → H' q = some (.lst xs) → Same H H' → Q (.ref q) H') : rNewL xs H Q := by unfold rNewL; exact alL (small64 hz) k
def tTu (t : TA) : TE := fun σ H Q => t σ H fun xs H1 => rNewT xs H1 Q
def tLs (t : TA) : TE := fun σ H Q => t σ H fun xs H1 => rNewL xs H1 Q
section
variable {X : Cx} {a b c e o tg : Expr} {es rest : List Expr} {ta tb tc te to : TE} {tA tB' : TT} {t : TA} {pos p p2 : Pos} {st : Stmt} {sts body orelse : List Stmt} {ts us : TS} {x : Str} {r r' : R2} {id T : String} {rl : List V → Hp → VK → Prop} {k i j : Nat} {ps : List Str} {sp : Sp} {n : Nat}
theorem we_v (i : Nat) {x : Str} {pos : Pos} (hN : X.N[i]? = some x := by rfl) (hv : Vis X.env.scope x := by first | exact Or.inl rfl | exact Or.inr (Or.inl rfl) | exact Or.inr (Or.inr rfl)) (hd : (x == ("__debug__" : Str)) = false := by decide)
    (hcd : (x == ("__classdict__" : Str)) = false := by decide) : PEw X (.Name x pos) (tVar i) := ⟨pv i hN hv hd hcd⟩
theorem we_int {i j pos} : PEw X (.Constant (.int i) j pos) (tC (.int i)) := ⟨pe_int⟩
theorem we_bl {b j pos} : PEw X (.Constant (.bool b) j pos) (tC (.bl b)) := ⟨pe_bl⟩
theorem we_non {j pos} : PEw X (.Constant .none j pos) (tC .non) := ⟨pe_non⟩
theorem we_str {x j pos} : PEw X (.Constant (.str x) j pos) (tC (.str x)) := ⟨pe_str⟩
theorem we_glob {v : V} {u : Value} (hg : Gl X x) (hm : X.mg x = some u) (r : RelV v u) (hd : (x == ("__debug__" : Str)) = false := by decide) : PEw X (.Name x pos) (tC v) := ⟨pe_glob hg hm r hd⟩
theorem we_op {op : Operator} (ho : OpR X (binaryOp op) r) (ha : PEw X a ta) (hb : PEw X b tb) : PEw X (.BinOp a op b pos) (tOp r ta tb) := ⟨pe_op ho ha.p hb.p⟩
theorem we_un {op : UnaryOp} {r : V → Hp → VK → Prop} (ho : UnR X (unaryOp op) r) (ha : PEw X a ta) : PEw X (.UnaryOp op a pos) (tUn r ta) := ⟨pe_un ho ha.p⟩
theorem we_cmp {op : CmpOp} (ho : OpR X (compareOp op) r) (ha : PEw X a ta) (hb : PEw X b tb) (hm : behindInMarks op b = false) : PEw X (.Compare a [op] [b] pos) (tOp r ta tb) := ⟨pe_cmpR ho ha.p hb.p hm⟩
theorem wt_cmp {op : CmpOp} (ho : OpR X (compareOp op) r) (ha : PEw X a ta) (hb : PEw X b tb) (hm : behindInMarks op b = false) : PTw X (.Compare a [op] [b] pos) (tTest (tOp r ta tb)) := ⟨pt_cmpR ho ha.p hb.p hm⟩
theorem ww_and1 (ha : PTw X a tA) : PWw X (.BoolOp .And [a] pos) tA := ⟨pw_and1 ha.p⟩
theorem ww_and (ha : PTw X a tA) (hb : PWw X (.BoolOp .And (b :: rest) pos) tB') : PWw X (.BoolOp .And (a :: b :: rest) pos) (tAnd tA tB') := ⟨pw_and ha.p hb.p⟩
theorem wt_w (h : PWw X e tA) : PTw X e tA := ⟨h.p.pt⟩
theorem wa_nil : PAw X [] tNil := ⟨pa_nil⟩
theorem wa_k (ha : PEw X e te) (hr : PAw X es t) (hs : starEach (e :: es) X.env = (false, eval e X.env) :: starEach es X.env := by first | exact se_Name | exact se_Constant | exact se_BoolOp | exact se_BinOp | exact se_UnaryOp | exact se_IfExp | exact se_Dict | exact se_ListComp | exact se_Compare | exact se_Call | exact se_Attribute | exact se_Subscript | exact se_List | exact se_Tuple | exact se_JoinedStr | exact se_GeneratorExp) : PAw X (e :: es) (tCons te t) := ⟨pa_cons ha.p hr.p hs⟩
theorem we_tup {x1} (h : PAw X es t) : PEw X (.Tuple es x1 pos) (tTu t) := ⟨by unfold tTu rNewT; exact pe_tup h.p⟩
theorem we_lst (h : PAw X es t) : PEw X (.List es pos) (tLs t) := ⟨by unfold tLs rNewL; exact pe_lst h.p⟩
theorem we_ix (hr : IxR X r) (ha : PEw X a ta) (hb : PEw X b tb) (hs : PlainIx b) : PEw X (.Subscript a b pos) (tOp r ta tb) := ⟨pe_ix hr ha.p hb.p hs⟩
theorem wo_none : POw X none tNoPart := ⟨po_none⟩
theorem wo_some (h : PEw X e te) : POw X (some e) (tPart te) := ⟨po_some h.p⟩
theorem we_slice {lo hi : Option Expr} {tl th : TO} {r : V → Option Int → Option Int → Hp → VK → Prop} (hr : SlR X r) (he : PEw X e te) (hl : POw X lo tl) (hu : POw X hi th) : PEw X (.Subscript e (.Slice lo hi none p2) pos) (tSl r te tl th) := ⟨pe_slice hr he.p hl.p hu.p⟩
theorem we_fn (F : FnC CX0 X.prog X.w X.K X.mg X.base k x ps sp) (hr : Room k X.A) (ha : PAw X (e :: es) t) (hg : Gl X x := by rfl)
    (hdb : (x == ("__debug__" : Str)) = false := by decide) (he : starEach (e :: es) X.env = (false, eval e X.env) :: starEach es X.env := by first | exact se_Name | exact se_Constant | exact se_BoolOp | exact se_BinOp | exact se_UnaryOp | exact se_IfExp | exact se_Dict | exact se_ListComp | exact se_Compare | exact se_Call | exact se_Attribute | exact se_Subscript | exact se_List | exact se_Tuple | exact se_JoinedStr | exact se_GeneratorExp)
    (hpl : (backTo pos (starEach es X.env)).any (·.1) = false := by repeat (first | exact ap_nil | refine ap_cons (by first | exact se_Name | exact se_Constant | exact se_BoolOp | exact se_BinOp | exact se_UnaryOp | exact se_IfExp | exact se_Dict | exact se_ListComp | exact se_Compare | exact se_Call | exact se_Attribute | exact se_Subscript | exact se_List | exact se_Tuple | exact se_JoinedStr | exact se_GeneratorExp) ?_)) :
    PEw X (.Call (.Name x p) (e :: es) [] pos) (tCall sp [] E0 t) := ⟨pe_fn F hr ha.p hg hdb he hpl⟩
theorem we_cB (hc : CallR X (.builtin id) rl) (hg : Gl X x) (hm : X.mg x = none) (hv : bootBuiltins x = some (.builtin id)) (ha : PAw X (e :: es) t) (hn : x ≠ "__name__" := by decide) (hdb : (x == ("__debug__" : Str)) = false := by decide)
    (he : starEach (e :: es) X.env = (false, eval e X.env) :: starEach es X.env := by first | exact se_Name | exact se_Constant | exact se_BoolOp | exact se_BinOp | exact se_UnaryOp | exact se_IfExp | exact se_Dict | exact se_ListComp | exact se_Compare | exact se_Call | exact se_Attribute | exact se_Subscript | exact se_List | exact se_Tuple | exact se_JoinedStr | exact se_GeneratorExp) (hpl : (backTo pos (starEach es X.env)).any (·.1) = false := by repeat (first | exact ap_nil | refine ap_cons (by first | exact se_Name | exact se_Constant | exact se_BoolOp | exact se_BinOp | exact se_UnaryOp | exact se_IfExp | exact se_Dict | exact se_ListComp | exact se_Compare | exact se_Call | exact se_Attribute | exact se_Subscript | exact se_List | exact se_Tuple | exact se_JoinedStr | exact se_GeneratorExp) ?_)) : PEw X (.Call (.Name x p) (e :: es) [] pos) (tCB rl t) :=
  ⟨pe_callB hc hg hm hv ha.p hn hdb he hpl⟩
theorem we_cT (hc : CallR X (.type T) rl) (hg : Gl X x) (hm : X.mg x = none) (hv : bootBuiltins x = some (.type T)) (ha : PAw X (e :: es) t) (hn : x ≠ "__name__" := by decide) (hdb : (x == ("__debug__" : Str)) = false := by decide)
    (he : starEach (e :: es) X.env = (false, eval e X.env) :: starEach es X.env := by first | exact se_Name | exact se_Constant | exact se_BoolOp | exact se_BinOp | exact se_UnaryOp | exact se_IfExp | exact se_Dict | exact se_ListComp | exact se_Compare | exact se_Call | exact se_Attribute | exact se_Subscript | exact se_List | exact se_Tuple | exact se_JoinedStr | exact se_GeneratorExp) (hpl : (backTo pos (starEach es X.env)).any (·.1) = false := by repeat (first | exact ap_nil | refine ap_cons (by first | exact se_Name | exact se_Constant | exact se_BoolOp | exact se_BinOp | exact se_UnaryOp | exact se_IfExp | exact se_Dict | exact se_ListComp | exact se_Compare | exact se_Call | exact se_Attribute | exact se_Subscript | exact se_List | exact se_Tuple | exact se_JoinedStr | exact se_GeneratorExp) ?_)) : PEw X (.Call (.Name x p) (e :: es) [] pos) (tCB rl t) :=
  ⟨pe_callTy hc hg hm hv ha.p hn hdb he hpl⟩
theorem we_bm {name : Str} {apos cpos : Pos} {r : V → List V → Hp → VK → Prop} (pa : PlainAttrs T) (slot : Slot T name id) (hty : typeOf (.builtin id) = pure (.type "method_descriptor")) (hm : MtR X id r) (ho : PEw X o to) (ha : PAw X (e :: es) t)
    (hbase : attributeBase o name X.env (eval o X.env) = eval o X.env := by rfl)
    (hfew : ((backTo cpos (starEach (e :: es) X.env)).all (fun x => !x.1) && (backToKw cpos (keywordEach [] X.env)).all (fun x => x.1.isSome)
      && decide ((e :: es).length + ([] : List Keyword).length + (if ([] : List Keyword).isEmpty then 0 else 1) < 30)) = true := by rfl)
    (hline : (apos.endLine == cpos.line) = true := by rfl) (hs : starEach (e :: es) X.env = (false, eval e X.env) :: starEach es X.env := by first | exact se_Name | exact se_Constant | exact se_BoolOp | exact se_BinOp | exact se_UnaryOp | exact se_IfExp | exact se_Dict | exact se_ListComp | exact se_Compare | exact se_Call | exact se_Attribute | exact se_Subscript | exact se_List | exact se_Tuple | exact se_JoinedStr | exact se_GeneratorExp) (hplain : (backTo cpos (starEach es X.env)).any (·.1) = false := by repeat (first | exact ap_nil | refine ap_cons (by first | exact se_Name | exact se_Constant | exact se_BoolOp | exact se_BinOp | exact se_UnaryOp | exact se_IfExp | exact se_Dict | exact se_ListComp | exact se_Compare | exact se_Call | exact se_Attribute | exact se_Subscript | exact se_List | exact se_Tuple | exact se_JoinedStr | exact se_GeneratorExp) ?_)) :
    PEw X (.Call (.Attribute o name apos) (e :: es) [] cpos) (tBM X.K T r to t) := ⟨pe_bm pa slot hty hm ho.p ha.p hbase hfew hline hs hplain⟩
/-! statements -/
theorem wss_nil : PSsw X [] tNext := ⟨pss_nil⟩
theorem wss_cons (h1 : PSw X st ts) (h2 : PSsw X sts us) : PSsw X (st :: sts) (tSeq ts us) := ⟨pss_cons h1.p h2.p⟩
theorem wss_one (h1 : PSw X st ts) : PSsw X [st] ts := ⟨pss_one h1.p⟩
theorem ws_expr (he : PEw X e te) (hs : swapsWith e none pos.line X.env = pure false := by rfl) : PSw X (.Expr e pos) (tDrop te) := ⟨ps_expr he.p hs⟩
theorem ws_ret (he : PEw X e te) : PSw X (.Return (some e) pos) (tRet te) := ⟨ps_ret he.p⟩
theorem ws_if {c : Expr} {a b : List Stmt} (hc : PTw X c tA) (ha : PSsw X a ts) (hb : PSsw X b us) : PSw X (.If c a b pos) (tIfS tA ts us) := ⟨ps_if hc.p ha.p hb.p⟩
theorem ws_cut (h : PSw X st ts) : PSw X st (tCut ts) := ⟨ps_cut h.p⟩
theorem wg_name {i : Nat} {x : Str} (hN : X.N.Nodup) (hi : X.N[i]? = some x) (hx : Loc X.env.scope x) (hf : X.fn x = true ∨ X.env.scope.names.lookup x = some .local := by first | exact .inl rfl | exact .inr rfl | assumption) : PGw X (.Name x pos) (gName i) := ⟨pg_name hN hi hx hf⟩
theorem wgs_nil : PGsw X [] gNil := ⟨pgs_nil⟩
theorem wgs_cons {t : TG} {u : TGs} (h1 : PGw X e t) (h2 : PGsw X es u)
    (hs : (assignEach (e :: es) X.env).map (·.2) = assign e X.env :: (assignEach es X.env).map (·.2) := by rfl) : PGsw X (e :: es) (gCons t u) := ⟨pgs_cons h1.p h2.p hs⟩
theorem wg_tup {k : Nat} {t : TGs} {n : Nat} (hc : X.calm = true) (h : PGsw X es t)
    (hn : (assignEach es X.env).length = n := by rfl) (hst : (assignEach es X.env).findIdx? (·.1) = none := by rfl) : PGw X (.Tuple es k pos) (gTup X.K n t) := ⟨pg_tup hc h.p hn hst⟩
theorem wg_sub {i : Expr} {ti : TE} {t : TSet} (ho : PEw X o to) (hi : PEw X i ti) (hs : PSet X t)
    (ha : ∀ v, assign (.Subscript o i pos) X.env v = (do
      let ov ← holding [v] (eval o X.env)
      let iv ← holding [v, ov] (eval i X.env)
      standAt pos
      holding [v, ov, iv] (setItem ov iv v)
      release [v, ov, iv] []) := by intro _; rfl) : PGw X (.Subscript o i pos) (gSub to ti t) := ⟨pg_sub ho.p hi.p hs ha⟩
theorem ws_asg {g : TG} (he : PEw X e te) (hg : PGw X tg g) (hs : swapsWithSole [tg] e pos.line X.env = pure false := by rfl) (hw : swappedStores [tg] e X.env = pure none := by rfl) (h1 : (assignEach [tg] X.env).map (·.2) = [assign tg X.env] := by rfl) : PSw X (.Assign [tg] e pos) (tAsg te g) := ⟨ps_asg he.p hg.p hs hw h1⟩
theorem ws_set {i : Nat} {pos' : Pos} (hN : X.N.Nodup) (hi : X.N[i]? = some x) (hx : Loc X.env.scope x) (he : PEw X e te) (hs : swapsWith e (some (.Name x pos')) pos.line X.env = pure false := by rfl) (hf : X.fn x = true ∨ X.env.scope.names.lookup x = some .local := by first | exact .inl rfl | exact .inr rfl | assumption) :
    PSw X (.Assign [.Name x pos'] e pos) (tAsg te (gName i)) := ⟨ps_set hN hi hx he.p hs hf⟩
theorem ws_par {i j : Nat} {x y : Str} {ta : TA} {px py pt : Pos} {kt k2 pt2} (hc : X.calm = true) (hN : X.N.Nodup) (hi : X.N[i]? = some x) (hj : X.N[j]? = some y) (hij : i ≠ j)
    (hx : X.env.scope.names.lookup x = some .local) (hy : X.env.scope.names.lookup y = some .local) (ha : PAw X [a, b] ta)
    (hw : swappedStores [.Tuple [.Name x px, .Name y py] kt pt] (.Tuple [a, b] k2 pt2) X.env = pure (some [x, y]))
    (hs : swapsWithSole [.Tuple [.Name x px, .Name y py] kt pt] (.Tuple [a, b] k2 pt2) pos.line X.env = pure false := by rfl) :
    PSw X (.Assign [.Tuple [.Name x px, .Name y py] kt pt] (.Tuple [a, b] k2 pt2) pos) (tPar i j ta) := ⟨ps_par hc hN hi hj hij hx hy ha.p hw hs⟩
theorem ws_while {c : Expr} {tc : TT} {tb : TS} (hp : PassesOwn (model X.prog X.w) X.A X.env X.xe) (hc : PTw X c tc) (hb : PSsw X body tb) : PSw X (.While c body [] pos) (tWhile (tMono tc) tb) := ⟨ps_whileM hp hc.p hb.p⟩
theorem wi_list {l : Expr} {tl : TE} (hl : PEw X l tl) : PIw X tg l (iList X.K tl) := ⟨pi_list hl.p⟩
theorem wi_tup {l : Expr} {tl : TE} (hl : PEw X l tl) : PIw X tg l (iTup X.K tl) := ⟨pi_tup hl.p⟩
theorem wi_range1 {a : Expr} {ta : TA} {p pos : Pos} (hg : Gl X "range") (hm : X.mg "range" = none) (ha : PAw X [a] ta) (hs : starEach [a] X.env = [(false, eval a X.env)] := by first | exact se_Name | exact se_Constant | exact se_BoolOp | exact se_BinOp | exact se_UnaryOp | exact se_IfExp | exact se_Dict | exact se_ListComp | exact se_Compare | exact se_Call | exact se_Attribute | exact se_Subscript | exact se_List | exact se_Tuple | exact se_JoinedStr | exact se_GeneratorExp) : PIw X tg (.Call (.Name "range" p) [a] [] pos) (iRng1 ta) := ⟨pi_range1 hg hm ha.p hs⟩
theorem wi_range2 {a b : Expr} {ta : TA} {p pos : Pos} (hg : Gl X "range") (hm : X.mg "range" = none) (ha : PAw X [a, b] ta) (hs : starEach [a, b] X.env = [(false, eval a X.env), (false, eval b X.env)] := by rfl) (hs2 : starEach [b] X.env = [(false, eval b X.env)] := by first | exact se_Name | exact se_Constant | exact se_BoolOp | exact se_BinOp | exact se_UnaryOp | exact se_IfExp | exact se_Dict | exact se_ListComp | exact se_Compare | exact se_Call | exact se_Attribute | exact se_Subscript | exact se_List | exact se_Tuple | exact se_JoinedStr | exact se_GeneratorExp) :
    PIw X tg (.Call (.Name "range" p) [a, b] [] pos) (iRng2 ta) := ⟨pi_range2 hg hm ha.p hs hs2⟩
theorem ws_for {iter : Expr} {wi : TI} {g : TG} {tb : TS} {pos : Pos} (hp : PassesOwn (model X.prog X.w) X.A X.env X.xe) (hc : X.calm = true) (hi : PIw X tg iter wi) (hg : PGw X tg g) (hb : PSsw X body tb)
    (hs : ∀ x, foldedSetIterable iter X.env x = pure x := by intro _; rfl) : PSw X (.For tg iter body [] pos) (tFor wi g tb) := ⟨ps_for hp hc hi.p hg.p hb.p hs⟩
end
/-- THE RULE for a def, over the shut judgement -/
theorem Fun.okw {P : Program} {w : World} {K : PySem.W.Frag} {mg : Str → Option Value} {base : Heap} {x qual : Str} {st : Stmt} {f : Addr} {fd : FuncData} {N ps : List Str} {k : Nat} {sp : Sp} (F : Fun K x qual st f fd) (S : FnScope N ps (defScope st)) (len : ∀ vs H Q E, sp vs H Q E → vs.length = ps.length)
    (hbody : ∀ (cdv : Value) (A : Around) (outer : List Env) (s : Shared) (H : Hp) (vs : List V) (Q : VK) (E : XK), Room k (A.deeper (envOfC qual (defScope st) s.heap.objs.size f cdv)) → sp vs H Q E →
      ∃ t, PSsw (cxOf CX0 P w K mg base N qual (defScope st) f cdv A outer s H E).nox (defBody st) t ∧ t { nx := fun _ H' => Q .non H', rt := Q } (start N vs) H) : FnOk P w K mg base CX0 (k + 1) f fd ps sp :=
  F.ok S len fun cdv A outer s H vs Q E hr h => by
    obtain ⟨t, h1, h2⟩ := hbody cdv A outer s H vs Q E hr h
    exact ⟨t, h1.p, h2⟩
end L2
set_option Elab.async false
set_option linter.all false
set_option maxRecDepth 100000
namespace L2
open PySem PySem.Spec PyProof.Rows
/-! ### Euclid -/
theorem gcd_step (a b : Int) : Int.gcd b (a % b) = Int.gcd a b := by
  have h := Int.gcd_add_mul_right_right b (a % b) (a / b)
  rw [show a % b + a / b * b = a from by have := Int.emod_add_mul_ediv a b; rw [Int.mul_comm]; exact this] at h
  rw [← h, Int.gcd_comm]
theorem gcd_end {a : Int} (h : 0 < a) : (Int.gcd a 0 : Int) = a := by rw [Int.gcd_zero_right]; omega
section
variable {H : Hp} {x : V} {d : PyData} {Q : VK}
end
theorem RepL.len {H : Hp} : ∀ {ds : List PyData} {vs : List V}, RepL H ds vs → vs.length = ds.length
  | [], _, h => by cases (show _ = [] from h); rfl
  | d :: ds, _, h => by
    unfold RepL at h
    obtain ⟨x, xs, rfl, _, h2⟩ := h
    simp [RepL.len h2]
section
variable {p : Addr} {σ : St} {t : TE} {ta : TA} {d : PyData} {ds : List PyData}
end
/-! ### an item at an open place -/
theorem atI_mem {α : Type} {xs : List α} {x : Int} (h0 : 0 ≤ x) (h1 : x < xs.length) : ∃ v, atI xs x = some v ∧ v ∈ xs ∧ xs[x.toNat]? = some v := by
  have h : x.toNat < xs.length := by omega
  have e := List.getElem?_eq_getElem h
  have := atI_nat e
  rw [Int.toNat_of_nonneg h0] at this
  exact ⟨_, this, List.getElem_mem h, e⟩
theorem RepL.append {H : Hp} {es : List PyData} {ws : List V} (h' : RepL H es ws) : ∀ {ds : List PyData} {vs : List V}, RepL H ds vs → RepL H (ds ++ es) (vs ++ ws)
  | [], _, h => by cases (show _ = [] from h); exact h'
  | d :: ds, _, h => by
    unfold RepL at h
    obtain ⟨x, xs, rfl, h1, h2⟩ := h
    exact RepL.cons h1 (RepL.append h' h2)
end L2
namespace L2
end L2
namespace L2
open PySem PySem.Spec PyProof.Rows
/-- what stood ahead of l's making is as it was, whatever became of l -/
theorem Same.thru {l : Addr} {H0 H1 H2 : Hp} (hl : H0 l = none) (s : Same H0 H1) (b : SameBut l H1 H2) : Same H0 H2 := fun c o e => by
  have n : c ≠ l := ne_of_none e hl
  exact b.at n (s _ _ e)
theorem catL {H : Hp} {l b : Addr} {xs zs : List V} {Q : VK} (h1 : H l = some (.lst xs)) (h2 : H b = some (.lst zs)) (hz : xs.length + zs.length ≤ 1000) (k : ∀ q H', H q = none → H' q = some (.lst (xs ++ zs)) → Same H H' → Q (.ref q) H') : rCat (.ref l) (.ref b) H Q :=
  ⟨l, b, xs, zs, rfl, rfl, h1, h2, Nat.le_of_lt (small1000 hz), fun q hq => k q _ hq upd_same (Same.upd hq)⟩
theorem tyL {K : PySem.W.Frag} {H : Hp} {l : Addr} {xs : List V} (h : H l = some (.lst xs)) : tyV K "list" (.ref l) H := .inl ⟨rfl, xs, SqL.of h⟩
end L2
set_option Elab.async false
set_option linter.all false
set_option maxRecDepth 100000
namespace L2
open PySem PySem.Spec PyProof.Rows
/-! ### a list's comprehension over one source, its name plain -/
def closL (env : Env) : List (Str × NameKind) → List (Str × Addr) → List (Str × Addr)
  | [], cs => cs
  | (n, k) :: r, cs => if k == .free then closL env r ((n, (env.cells.lookup n).getD 0) :: cs) else closL env r cs
theorem clos_eq (env : Env) : ∀ (l : List (Str × NameKind)) (cs : List (Str × Addr)), (∀ y ∈ l, y.2 = .free → ∃ c, env.cells.lookup y.1 = some c) →
    (forIn l cs fun (x : Str × NameKind) r => if x.2 == .free then (do let c ← cellOf env x.1; pure (ForInStep.yield ((x.1, c) :: r)) : Sem _) else pure (ForInStep.yield r)) = pure (closL env l cs)
  | [], cs, _ => rfl
  | (n, k) :: r, cs, h => by
    rw [List.forIn_cons]
    have ih := fun cs => clos_eq env r cs fun y hy => h y (List.mem_cons_of_mem _ hy)
    by_cases hk : (k == NameKind.free) = true
    · obtain ⟨c, hc⟩ := h (n, k) List.mem_cons_self (by simpa using hk)
      dsimp only at hc
      simp only [hk, if_true, closL, hc, Option.getD_some, cellOf, pure_bind]
      exact ih _
    · simp only [hk, closL, pure_bind]
      exact ih _
theorem closureFor_eq {env : Env} {scope : Scope} (h : ∀ y ∈ scope.names, y.2 = .free → ∃ c, env.cells.lookup y.1 = some c) : closureFor scope env = pure (closL env scope.names []) := by
  have e := clos_eq env scope.names [] h
  unfold closureFor
  simp only [bind_pure]
  exact e
theorem closL_mem {env : Env} : ∀ (l : List (Str × NameKind)) (cs : List (Str × Addr)), (∀ y ∈ l, y.2 = .free → ∃ c, env.cells.lookup y.1 = some c) → ∀ p ∈ closL env l cs, p ∈ cs ∨ env.cells.lookup p.1 = some p.2
  | [], cs, _, p, hp => .inl hp
  | (n, k) :: r, cs, h, p, hp => by
    have h' : ∀ y ∈ r, y.2 = .free → ∃ c, env.cells.lookup y.1 = some c := fun y hy => h y (List.mem_cons_of_mem _ hy)
    unfold closL at hp
    by_cases hk : (k == NameKind.free) = true
    · rw [if_pos hk] at hp
      obtain ⟨c, hc⟩ := h (n, k) List.mem_cons_self (by simpa using hk)
      rcases closL_mem r _ h' p hp with hm | hm
      · rcases List.mem_cons.mp hm with rfl | hm
        · exact .inr (by dsimp only at hc ⊢; rw [hc]; rfl)
        · exact .inl hm
      · exact .inr hm
    · rw [if_neg hk] at hp
      exact closL_mem r cs h' p hp
theorem closL_acc {env : Env} : ∀ (l : List (Str × NameKind)) (cs : List (Str × Addr)), ∀ p ∈ cs, p ∈ closL env l cs
  | [], _, _, hp => hp
  | (n, k) :: r, cs, p, hp => by
    unfold closL
    by_cases hk : (k == NameKind.free) = true
    · rw [if_pos hk]; exact closL_acc r _ p (List.mem_cons_of_mem _ hp)
    · rw [if_neg hk]; exact closL_acc r _ p hp
theorem closL_has {env : Env} : ∀ (l : List (Str × NameKind)) (cs : List (Str × Addr)) (y : Str), (y, NameKind.free) ∈ l → ∃ a, (y, a) ∈ closL env l cs
  | (n, k) :: r, cs, y, hy => by
    unfold closL
    rcases List.mem_cons.mp hy with e | hm
    · cases e
      rw [if_pos (by rfl)]
      exact ⟨_, closL_acc r _ _ List.mem_cons_self⟩
    · by_cases hk : (k == NameKind.free) = true
      · rw [if_pos hk]; exact closL_has r _ y hm
      · rw [if_neg hk]; exact closL_has r _ y hm
theorem lookup_mem {α β : Type} [BEq α] [LawfulBEq α] {x : α} {c : β} : ∀ {l : List (α × β)}, l.lookup x = some c → (x, c) ∈ l
  | [], h => by cases h
  | (a, b) :: r, h => by
    rw [List.lookup_cons] at h
    by_cases e : (x == a) = true
    · rw [e] at h
      have : x = a := by simpa using e
      subst this
      cases h
      exact List.mem_cons_self
    · have e' : (x == a) = false := by simpa using e
      rw [e'] at h
      exact List.mem_cons_of_mem _ (lookup_mem h)
theorem mem_lookup {α β : Type} [BEq α] [LawfulBEq α] {x : α} {c : β} : ∀ {l : List (α × β)}, (x, c) ∈ l → ∃ c', l.lookup x = some c'
  | (a, b) :: r, h => by
    rw [List.lookup_cons]
    by_cases e : (x == a) = true
    · rw [e]; exact ⟨_, rfl⟩
    · have e' : (x == a) = false := by simpa using e
      rw [e']
      rcases List.mem_cons.mp h with q | q
      · cases q; simp at e
      · exact mem_lookup q
def clOf (X : Cx) (scope : Scope) : List (Str × Addr) := closL X.env scope.names []
theorem clOf_env {X : Cx} {scope : Scope} (h : ∀ y ∈ scope.names, y.2 = .free → ∃ c, X.env.cells.lookup y.1 = some c) {x : Str} {c : Addr} (e : (clOf X scope).lookup x = some c) : X.env.cells.lookup x = some c := by
  rcases closL_mem scope.names [] h _ (lookup_mem e) with hm | hm
  · cases hm
  · exact hm
theorem clOf_has {X : Cx} {scope : Scope} (h : ∀ y ∈ scope.names, y.2 = .free → ∃ c, X.env.cells.lookup y.1 = some c) {x : Str} (hx : (x, NameKind.free) ∈ scope.names) {c : Addr} (e : X.env.cells.lookup x = some c) : (clOf X scope).lookup x = some c := by
  obtain ⟨a, ha⟩ := closL_has (env := X.env) scope.names [] x hx
  obtain ⟨c', hc'⟩ := mem_lookup ha
  have := clOf_env h hc'
  rw [e] at this
  cases this
  exact hc'
/-- the context of the block -/
def cxC (X : Cx) (scope : Scope) (C : Addr) (fp : List Addr) (s₀ : Shared) (H₀ : Hp) (N' : List Str) : Cx where
  prog := X.prog
  w := X.w
  K := X.K
  mg := X.mg
  base := X.base
  A := X.A
  N := N'
  s₀ := s₀
  H₀ := H₀
  env := compEnvC scope (clOf X scope) C X.env
  outer := X.stack
  stack := X.stack
  ex := fp
  fn := fun _ => false
  calm := true
  pn := []
  xe := fun _ _ => False
def slots (σ : St) (js : List Nat) : St := js.map fun j => (σ[j]?).getD none
/-- the tests of a comprehension -/
def PTs (X : Cx) (ifs : List Expr) (t : TT) : Prop :=
  ∀ (pins : List (Addr × Obj)) (s : Shared) (σ : St) (H : Hp) (Q : Bool → Hp → Prop), Inv X pins σ H s → t σ H Q →
    wpAny (model X.prog X.w) X.A (forIn ifs true fun c r => if r = true then do let ok ← isTrue c X.env (eval c X.env); pure (ForInStep.yield ok) else pure (ForInStep.yield r)) (TP X pins σ Q) X.xe s
def tYes : TT := fun _ H Q => Q true H
theorem pts_nil {X : Cx} : PTs X [] tYes := fun pins s σ H Q I h => wpAny_tests_nil ⟨H, I, h⟩
theorem pts_one {X : Cx} {c : Expr} {t : TT} (h : PT X c t) : PTs X [c] t := fun pins s σ H Q I q => wpAny_tests_one (h pins s σ H Q I q)
def tComp (wi : TI) (js : List Nat) (tc : TT) (te : TE) : TE := fun σ H Q => wi σ H fun J H1 => ∀ D, H1 D = none → ∃ W : Nat → Nat → List V → Hp → Prop, (∃ m, W 0 m [] (upd H1 D (.lst []))) ∧
  ∀ i m ys H2, W i m ys H2 → H2 D = some (.lst ys) ∧ ((J.stop i H2 ∧ Q (.ref D) H2) ∨ (J.go i H2 ∧ ys.length < sizeLine ∧ ∀ x H3, J.yld i H2 x H3 →
    tc (some x :: slots σ js) H3 fun b H4 => if b = true then te (some x :: slots σ js) H4 fun y H5 => H5 D = some (.lst ys) ∧ ∃ m', m' < m ∧ W (i + 1) m' (ys ++ [y]) (upd H5 D (.lst (ys ++ [y])))
      else H4 D = some (.lst ys) ∧ ∃ m', m' < m ∧ W (i + 1) m' ys H4))
/-- what of the scope is asked -/
structure CScope (X : Cx) (scope : Scope) (x : Str) (N' : List Str) (js : List Nat) : Prop where
  calm : X.calm = true
  free : ∀ y ∈ scope.names, y.2 = .free → X.env.kindOf y.1 = some .cell
  cell : ∀ y ∈ scope.names, y.2 ≠ .cell
  kind : scope.kind = .function
  names : ∀ y ∈ scope.names, y.2 = .local → scope.names.lookup y.1 = some .local
  own : scope.names.lookup x = some .local
  nofl : ∀ y, (y, NameKind.free) ∈ scope.names → scope.names.lookup y = some .local → False
  len : N'.length = js.length + 1
  zero : N'[0]? = some x
  nd : N'.Nodup
  slot : ∀ (i : Nat) (j : Nat), js[i]? = some j → ∃ y, N'[i + 1]? = some y ∧ X.N[j]? = some y ∧ (y, NameKind.free) ∈ scope.names
end L2
set_option Elab.async false
set_option linter.all false
set_option maxRecDepth 100000
namespace L2
open PySem PySem.Spec PyProof.Rows
section
variable {X : Cx} {pins : List (Addr × Obj)} {σ : St} {H : Hp} {s : Shared} {scope : Scope} {x : Str} {N' : List Str} {js : List Nat} {fp : List Addr}
theorem CScope.cells (S : CScope X scope x N' js) (ok : X.Ok) : ∀ y ∈ scope.names, y.2 = .free → ∃ c, X.env.cells.lookup y.1 = some c := fun y hy hf => ok.has _ (.inl (S.free y hy hf))
theorem relabel_cases {env : Env} : ∀ {names : List (Str × NameKind)} {y : Str} {k : NameKind}, (names.map fun (n, k) => if (k == NameKind.free && env.scope.kind == .function && env.kindOf n == some .cell) then (n, NameKind.cell) else (n, k)).lookup y = some k →
    (k = .cell ∨ k = .free) → (∀ z ∈ names, z.2 ≠ .cell) → (y, NameKind.free) ∈ names
  | [], _, _, h, _, _ => by cases h
  | (n, q) :: r, y, k, h, hk, hc => by
    rw [List.map_cons, List.lookup_cons] at h
    have ih := fun h => @relabel_cases env r y k h hk fun z hz => hc z (List.mem_cons_of_mem _ hz)
    by_cases hq : (q == NameKind.free && env.scope.kind == .function && env.kindOf n == some .cell) = true
    · dsimp only at h
      rw [if_pos hq] at h
      have qf : q = .free := by
        rw [Bool.and_eq_true, Bool.and_eq_true] at hq
        simpa using hq.1.1
      subst qf
      by_cases e : (y == n) = true
      · have : y = n := by simpa using e
        subst this
        exact List.mem_cons_self
      · have e' : (y == n) = false := by simpa using e
        dsimp only at h
        rw [e'] at h
        exact List.mem_cons_of_mem _ (ih h)
    · dsimp only at h
      rw [if_neg hq] at h
      by_cases e : (y == n) = true
      · have : y = n := by simpa using e
        subst this
        dsimp only at h
        rw [e] at h
        have hkq : k = q := by injection h with h; exact h.symm
        subst hkq
        rcases hk with rfl | rfl
        · exact absurd rfl (hc _ List.mem_cons_self)
        · exact List.mem_cons_self
      · have e' : (y == n) = false := by simpa using e
        dsimp only at h
        rw [e'] at h
        exact List.mem_cons_of_mem _ (ih h)
theorem cxC_ok (S : CScope X scope x N' js) (I : Inv X pins σ H s) (hf : ∀ b ∈ fp, FpOk X pins H b) (hb : ∀ b ∈ fp, b < s.heap.objs.size) : (cxC X scope s.heap.objs.size fp s H N').Ok where
  mod := I.ok.mod
  kind := S.kind
  glob := I.ok.glob
  blt := I.ok.blt
  above := Nat.le_refl _
  inj := fun y z c h1 h2 => I.ok.inj y z c (clOf_env (S.cells I.ok) h1) (clOf_env (S.cells I.ok) h2)
  has := fun y hy => by
    have hm : (y, NameKind.free) ∈ scope.names := by
      rcases hy with hy | hy
      · exact relabel_cases (env := X.env) hy (.inl rfl) S.cell
      · exact relabel_cases (env := X.env) hy (.inr rfl) S.cell
    obtain ⟨c, hc⟩ := S.cells I.ok _ hm rfl
    exact ⟨c, clOf_has (S.cells I.ok) hm hc⟩
  cab := fun _ _ h => by cases h
  hd := fun _ => I.ok.hd S.calm
  frames := I.ok.frames
  stk := .inl rfl
  exf := fun b hb' => ⟨fun e => by have := hb b hb'; rw [e] at this; exact Nat.lt_irrefl _ this, fun y c h => (hf b hb').2.2.2.2.1 y c (clOf_env (S.cells I.ok) h)⟩
  bs := I.bs
  bsz := Nat.le_trans I.ok.bsz I.sz
  noex := fun b o e hb' => by
    rcases (hf b hb').2.2.2.1 with h | h
    · exact I.ok.noex b o e h
    · exact absurd (Nat.lt_of_lt_of_le (Heap.lt_size e) (Nat.le_trans I.ok.bsz h)) (Nat.lt_irrefl _)
  exfs := fun b hb' hs => by
    have h2 := I.stkSub b hs
    rcases List.mem_cons.mp h2 with h2 | h2
    · exact (hf b hb').2.1 h2
    · exact (hf b hb').2.2.1 h2
  funs := I.stack
  frf := I.stkFree
theorem slots_get {i j : Nat} (h : js[i]? = some j) : (slots σ js)[i]? = some ((σ[j]?).getD none) := by
  unfold slots; rw [List.getElem?_map, h]; rfl
/-- the block begins -/
theorem cxC_inv {h' : Heap} {tk : Nat} (S : CScope X scope x N' js) (I : Inv X pins σ H s) (hf : ∀ b ∈ fp, FpOk X pins H b) (hb : ∀ b ∈ fp, b < s.heap.objs.size)
    (hn : h'.Ns s.heap.objs.size (fun _ => none)) (hk : ∀ b o, s.heap.get? b = some o → h'.get? b = some o) : Inv (cxC X scope s.heap.objs.size fp s H N') [] (none :: slots σ js) H { s with heap := h', toks := tk } where
  ok := cxC_ok S I hf hb
  os := rfl
  bare := I.bare
  base := Un.kept hk
  loc := by
    refine ⟨_, hn, fun i y v hi hv hvis => ?_⟩
    cases i with
    | zero => cases hv
    | succ i =>
      have hv' : (slots σ js)[i]? = some (some v) := hv
      have hlt : i < js.length := by
        have := (List.getElem?_eq_some_iff.mp hv').1
        unfold slots at this
        rwa [List.length_map] at this
      have hj : js[i]? = some js[i] := List.getElem?_eq_getElem hlt
      obtain ⟨z, h1, h2, h3⟩ := S.slot i _ hj
      have hzy : z = y := by
        have : N'[i + 1]? = some y := hi
        rw [h1] at this; cases this; rfl
      subst hzy
      rw [slots_get hj] at hv'
      have hσ : σ[js[i]]? = some (some v) := by
        cases q : σ[js[i]]? with
        | none => rw [q] at hv'; cases hv'
        | some o => rw [q] at hv'; cases hv'; rfl
      have hkc : X.env.kindOf z = some .cell := S.free _ h3 rfl
      obtain ⟨m, hm, hl⟩ := I.loc
      obtain ⟨u, ru, lk⟩ := hl _ z v h2 hσ (.inr (.inl hkc))
      rcases lk with ⟨hk1, _⟩ | ⟨_, c, hc, hcell⟩
      · rw [hkc] at hk1; cases hk1
      · refine ⟨u, ru, .inr ⟨?_, c, clOf_has (S.cells I.ok) h3 hc, ?_⟩⟩
        · rcases hvis with hvis | hvis | hvis
          · exfalso
            have hcl := clOf_has (S.cells I.ok) h3 hc
            -- a name that is free in the scope is not local there
            have hm2 := lookup_mem (l := (relabel scope X.env).names) hvis
            unfold relabel at hm2
            obtain ⟨⟨n, k⟩, hmem, he⟩ := List.mem_map.mp hm2
            dsimp only at he
            by_cases hq : (k == NameKind.free && X.env.scope.kind == .function && X.env.kindOf n == some .cell) = true
            · rw [if_pos hq] at he; cases he
            · rw [if_neg hq] at he
              cases he
              have := S.names _ hmem rfl
              have l2 := mem_lookup h3
              obtain ⟨c', l2⟩ := l2
              dsimp only at this
              rw [this] at l2
              have key : (relabel scope X.env).names.lookup z = some .local := lookup_relabel_local this
              have hck : scope.names.lookup z = some .local := this
              exact S.nofl z h3 hck
          · exact .inl hvis
          · exact .inr hvis
        · obtain ⟨o, e, r⟩ := hcell
          exact ⟨o, hk _ _ e, r⟩
  cell := fun y c h => by
    obtain ⟨v, o, e, r⟩ := I.cell y c (clOf_env (S.cells I.ok) h)
    exact ⟨v, o, hk _ _ e, r⟩
  free := I.hok.fresh (Nat.le_refl _)
  freeC := fun y c h => I.freeC y c (clOf_env (S.cells I.ok) h)
  pin := fun p hp => by cases hp
  hok := I.hok.kept hk
  len := by
    show (slots σ js).length + 1 = N'.length
    unfold slots
    rw [List.length_map, S.len]
/-- all but an untracked place is kept -/
theorem HOk.but {P : Program} {w : World} {H : Hp} {h h' : Heap} {C : Addr} (x : HOk P w H h) (hC : H C = none) (k : ∀ b u, b ≠ C → h.get? b = some u → h'.get? b = some u) : HOk P w H h' := fun a o e =>
  (x a o e).stay (fun b u hb q => k b u (by
    rcases hb with rfl | hb
    · exact ne_of_none e hC
    · exact ne_of_none hb hC) q) (fun _ q => q) fun _ _ q => q
/-- the block's end, for the def around it -/
theorem cxC_back {H2 : Hp} {σ' : St} {s2 : Shared} {h'' : Heap} (S : CScope X scope x N' js) (I : Inv X pins σ H s) (hf : ∀ b ∈ fp, FpOk X pins H b)
    (J : Inv (cxC X scope s.heap.objs.size fp s H N') [] σ' H2 s2) (hs : Heap.SameBut s.heap.objs.size s2.heap h'') : Inv X pins σ H2 { s2 with heap := h'' } := by
  have hC : H2 s.heap.objs.size = none := J.free
  have ne : ∀ {b : Addr} {o : Obj}, s.heap.get? b = some o → b ≠ s.heap.objs.size := fun e q => by
    have := Heap.lt_size e; rw [q] at this; exact Nat.lt_irrefl _ this
  refine I.call' (s' := { s2 with heap := h'' }) (ch := fp) (by rw [show ({ s2 with heap := h'' } : Shared).os = s2.os from rfl]; exact J.os) ?_ (J.hok.but hC fun b u hb q => hs.extBut b u hb q) J.bare fun b hb => ⟨(hf b hb).2.2.2.1, (hf b hb).2.1, (hf b hb).2.2.2.2.1, (hf b hb).2.2.2.2.2⟩
  have U := J.base
  exact {
    keep := fun b o e n h1 h2 => hs.extBut b o (ne e) (U.keep b o e n h1 h2)
    slot := fun b o e n h1 h2 => by
      obtain ⟨sl, q⟩ := U.slot b o e n h1 h2
      exact ⟨sl, hs.extBut b _ (ne e) q⟩
    free := U.free
    there := fun b o e h2 => by
      obtain ⟨o', q⟩ := U.there b o e h2
      exact ⟨o', hs.extBut b _ (ne e) q⟩
    tups := U.tups
    frzs := U.frzs
    tbls := U.tbls }
end
end L2
set_option Elab.async false
set_option linter.all false
set_option maxRecDepth 100000
namespace L2
open PySem PySem.Spec PyProof.Rows
abbrev NoX : Value → Shared → Prop := fun _ _ => False
theorem compLoop_gen {prog : Program} {w : World} {A : Around} {R : Result → Shared → Prop} {s : Shared} {elt target iter : Expr} {ifs : List Expr} {scope : Scope} {pos : Pos} {it acc : Value} {env : Env} (I : Nat → Shared → Prop)
    (turn : ∀ n s, I n s → wpAny (model prog w) A (pyNext it) (fun r s₁ => match r with
      | none => R (.ok .next) s₁
      | some v => wpAny (model prog w) A (letOwnedTupleGo target it v) (fun _ s₁' => wpAny (model prog w) A (assign target env v) (fun _ s₂ =>
          wpAny (model prog w) A (forIn ifs true fun c r => if r = true then do let ok ← isTrue c env (eval c env); pure (ForInStep.yield ok) else pure (ForInStep.yield r)) (fun ok s₃ =>
            if ok = true then wpAny (model prog w) A (eval elt env) (fun x s₄ => wpAny (model prog w) A (call (.builtin "list.append") [acc, x]) (fun _ s₅ => ∃ m, m < n ∧ I m s₅) NoX s₄) NoX s₃
            else ∃ m, m < n ∧ I m s₃) NoX s₂) NoX s₁') NoX s₁) NoX s)
    (n : Nat) (h : I n s) : codeAny (model prog w) A (.compLoop (.ListComp elt [⟨target, iter, ifs, 0⟩] scope pos) 0 it acc env) R s := by
  refine codeAny_loop rfl I (fun n s hI => ?_) n h
  show wpAny _ A ((compTurn (.ListComp elt [⟨target, iter, ifs, 0⟩] scope pos) 0 it acc env).onRaise (fun x => do noteFrame x env; theTreesLotGoes x)) _ _ s
  refine wpAny_noted ?_
  rw [compTurn_list]
  refine wpAny_bind (wpAny_standAt (wpAny_bind (wpAny_mono (turn n s hI) (fun r s₁ h₁ => ?_) fun _ _ h' => h'.elim)))
  cases r with
  | none => exact wpAny_pure h₁
  | some v =>
    refine wpAny_bind (wpAny_mono h₁ (fun _ s₁' h₁' => ?_) fun _ _ h' => h'.elim)
    refine wpAny_bind (wpAny_mono h₁' (fun _ s₂ h₂ => wpAny_bind (wpAny_mono h₂ (fun ok s₃ h₃ => ?_) fun _ _ h' => h'.elim)) fun _ _ h' => h'.elim)
    cases ok with
    | false => exact wpAny_pure ⟨rfl, h₃⟩
    | true =>
      exact wpAny_bind (wpAny_bind (wpAny_mono h₃ (fun x s₄ h₄ => wpAny_bind (wpAny_mono h₄ (fun _ s₅ h₅ => wpAny_pure (wpAny_pure ⟨rfl, h₅⟩)) fun _ _ h' => h'.elim)) fun _ _ h' => h'.elim))
section
variable {X : Cx} {pins : List (Addr × Obj)} {σ : St} {H : Hp} {s : Shared} {scope : Scope} {x : Str} {N' : List Str} {js : List Nat} {fp : List Addr} {elt iter : Expr} {px pos : Pos} {ifs : List Expr} {tc : TT} {te : TE}
theorem comp_block {J : It} {it : Addr} {tn : Nat → Heap → Prop} {RR : Value → Addr → Result → Shared → Prop} {E : Value → Shared → Prop} {Q : VK}
    (S : CScope X scope x N' js) (I : Inv X pins σ H s) (T : Turn X.prog X.w X.K (.Name x px) J fp it tn) (h0 : tn 0 s.heap) (hf : ∀ b ∈ fp, FpOk X pins H b)
    (ht : ∀ C fp s₀ H₀, PTs (cxC X scope C fp s₀ H₀ N') ifs tc) (he : ∀ C fp s₀ H₀, PE (cxC X scope C fp s₀ H₀ N') elt te)
    (R : ∀ D, H D = none → ∃ W : Nat → Nat → List V → Hp → Prop, (∃ m, W 0 m [] (upd H D (.lst []))) ∧
      ∀ i m ys H2, W i m ys H2 → H2 D = some (.lst ys) ∧ ((J.stop i H2 ∧ Q (.ref D) H2) ∨ (J.go i H2 ∧ ys.length < sizeLine ∧ ∀ x H3, J.yld i H2 x H3 →
        tc (some x :: slots σ js) H3 fun b H4 => if b = true then te (some x :: slots σ js) H4 fun y H5 => H5 D = some (.lst ys) ∧ ∃ m', m' < m ∧ W (i + 1) m' (ys ++ [y]) (upd H5 D (.lst (ys ++ [y])))
          else H4 D = some (.lst ys) ∧ ∃ m', m' < m ∧ W (i + 1) m' ys H4)))
    (hRR : ∀ (D : Addr) (H3 : Hp) (s3 : Shared) (σ' : St) (H' : Hp) (s' : Shared), Inv X pins σ H3 s3 → (∀ b ∈ fp, FpOk X pins H3 b) → Inv (cxC X scope s3.heap.objs.size fp s3 H3 N') [] σ' H' s' → Q (.ref D) H' → RR (.ref D) s3.heap.objs.size (.ok .next) s') :
    wpAny (model X.prog X.w) X.A (newList []) (fun acc s₃ => wpAny (model X.prog X.w) X.A (newFunctionEnv scope X.env.globals (clOf X scope) [] X.env.qual none .none (some X.env)) (fun cenv s₄ =>
      codeAny (model X.prog X.w) X.A (.compStart (.ListComp elt [⟨.Name x px, iter, ifs, 0⟩] scope pos) 0 (.ref it) acc { cenv with scope := relabel scope X.env }) (RR acc cenv.locals) s₄) E s₃) E s := by
  have hb : ∀ b ∈ fp, b < s.heap.objs.size := fun b hb => by
    obtain ⟨o, e, _⟩ := T.obj 0 _ h0 b hb
    exact Heap.lt_size e
  refine wpAny_newObj_type (wpAny_newFunctionEnv S.cell (by intro y hy; simp at hy) (fun h₁ hns₁ hsb₁ => ?_) S.kind)
  have hDn : H s.heap.objs.size = none := I.hok.fresh (Nat.le_refl _)
  obtain ⟨W, ⟨m0, hw0⟩, hW⟩ := R _ hDn
  have I3 : Inv X pins σ (upd H s.heap.objs.size (.lst [])) { s with heap := s.heap.push { cls := .type "list", dict := none, data := .seq ([] : List Value).toArray } } := I.lnew (its := []) (ys := []) (t' := s.toks) .nil (Nat.zero_le _)
  have hf3 : ∀ b ∈ fp, FpOk X pins (upd H s.heap.objs.size (.lst [])) b := fun b hb' =>
    ⟨by rw [upd_ne (fun e => by have := hb b hb'; rw [e] at this; exact Nat.lt_irrefl _ this)]; exact (hf b hb').1, (hf b hb').2⟩
  have hb3 : ∀ b ∈ fp, b < (s.heap.push { cls := .type "list", dict := none, data := .seq ([] : List Value).toArray }).objs.size := fun b hb' => by
    rw [Heap.size_push]; exact Nat.lt_succ_of_lt (hb b hb')
  have hkeep : ∀ b o, (s.heap.push { cls := .type "list", dict := none, data := .seq ([] : List Value).toArray }).get? b = some o → h₁.get? b = some o := fun b o e =>
    hsb₁.extBut b o (fun q => by have := Heap.lt_size e; rw [q] at this; exact Nat.lt_irrefl _ this) (Heap.get?_push_of_some _ e)
  have J4 := cxC_inv (h' := h₁) (tk := s.toks + ([] : List (Str × Value)).length) S I3 hf3 hb3 hns₁ hkeep
  have t4 : tn 0 h₁ := T.keep 0 _ _ h0 fun b hb' o e => hkeep b o (Heap.get?_push_of_some _ e)
  have loop : codeAny (model X.prog X.w) X.A (.compLoop (.ListComp elt [⟨.Name x px, iter, ifs, 0⟩] scope pos) 0 (.ref it) (.ref s.heap.objs.size) (compEnvC scope (clOf X scope) (s.heap.push { cls := .type "list", dict := none, data := .seq ([] : List Value).toArray }).objs.size X.env))
      (RR (.ref s.heap.objs.size) (s.heap.push { cls := .type "list", dict := none, data := .seq ([] : List Value).toArray }).objs.size) { s with heap := h₁, toks := s.toks + ([] : List (Str × Value)).length } := by
    refine compLoop_gen (fun n s' => ∃ (i : Nat) (ys : List V) (H2 : Hp) (o : Option V), Inv (cxC X scope _ fp _ _ N') [] (o :: slots σ js) H2 s' ∧ tn i s'.heap ∧ (∀ b ∈ fp, H2 b = none) ∧ W i n ys H2) ?_ m0 ⟨0, [], _, none, J4, t4, fun b hb' => (hf3 b hb').1, hw0⟩
    rintro n s' ⟨i, ys, H2, o, J2, t2, f2, w2⟩
    obtain ⟨hD, hcase⟩ := hW i n ys H2 w2
    have Fp : ∀ b ∈ fp, FpOk (cxC X scope (s.heap.push { cls := .type "list", dict := none, data := .seq ([] : List Value).toArray }).objs.size fp { s with heap := s.heap.push { cls := .type "list", dict := none, data := .seq ([] : List Value).toArray } } (upd H s.heap.objs.size (.lst [])) N') [] H2 b := fun b hb' =>
      ⟨f2 b hb', (J2.ok.exf b hb').1, J2.ok.exfs b hb', .inl hb', (J2.ok.exf b hb').2, fun p hp => by cases hp⟩
    rcases hcase with ⟨hstop, hq⟩ | ⟨hgo, hz, hturn⟩
    · refine wpAny_mono (T.done (cxC X scope _ fp _ _ N') rfl rfl rfl rfl i [] s' _ H2 NoX J2 Fp t2 hstop) (fun r s1 ⟨hr, J5⟩ => ?_) fun _ _ f => f
      subst hr
      exact hRR _ _ _ _ _ _ I3 hf3 J5 hq
    · refine wpAny_mono (T.item (cxC X scope _ fp _ _ N') rfl rfl rfl rfl i [] s' _ H2 NoX J2 Fp t2 hgo) (fun r s1 ⟨u, hr, hx⟩ => ?_) fun _ _ f => f
      subst hr
      refine wpAny_mono hx (fun _ s2 ⟨v, H3, J3, rv, hy, t3, f3⟩ => ?_) fun _ _ f => f
      have Fp3 : ∀ b ∈ fp, FpOk (cxC X scope (s.heap.push { cls := .type "list", dict := none, data := .seq ([] : List Value).toArray }).objs.size fp { s with heap := s.heap.push { cls := .type "list", dict := none, data := .seq ([] : List Value).toArray } } (upd H s.heap.objs.size (.lst [])) N') [] H3 b := fun b hb' =>
        ⟨f3 b hb', (J3.ok.exf b hb').1, J3.ok.exfs b hb', .inl hb', (J3.ok.exf b hb').2, fun p hp => by cases hp⟩
      have P3 := J3.pinned Fp3 (T.obj (i + 1) _ t3)
      have keepT : ∀ {σ' : St} {Hx : Hp} {sx : Shared}, Inv (cxC X scope (s.heap.push { cls := .type "list", dict := none, data := .seq ([] : List Value).toArray }).objs.size fp { s with heap := s.heap.push { cls := .type "list", dict := none, data := .seq ([] : List Value).toArray } } (upd H s.heap.objs.size (.lst [])) N') ([] ++ pinsAt fp s2.heap) σ' Hx sx → tn (i + 1) sx.heap ∧ ∀ b ∈ fp, Hx b = none := fun Jx =>
        ⟨T.keep (i + 1) _ _ t3 fun b hb' ob e => (Jx.pin (b, ob) (List.mem_append_right _ (List.mem_append_right _ (mem_pinsAt hb' e)))).1, fun b hb' => by
          obtain ⟨ob, e, _⟩ := T.obj (i + 1) _ t3 b hb'
          exact (Jx.pin (b, ob) (List.mem_append_right _ (List.mem_append_right _ (mem_pinsAt hb' e)))).2.1⟩
      refine wpAny_assign_Name (store_ok P3 (i := 0) (x := x) (v := v) ?nd ?hi ?hx rv (fun s5 J5 => ?_) ?hfn)
      case nd => exact S.nd
      case hi => exact S.zero
      case hx => exact .inl (lookup_relabel_local S.own)
      case hfn => exact .inr (lookup_relabel_local S.own)
      have J5' : Inv _ _ (some v :: slots σ js) H3 s5 := J5
      refine wpAny_mono (ht _ _ _ _ _ _ _ _ _ J5' (hturn v H3 hy)) (fun ok s6 ⟨H6, J6, q6⟩ => ?_) fun _ _ f => f
      dsimp only at q6
      by_cases hok : ok = true
      · rw [if_pos hok] at q6 ⊢
        refine wpAny_mono (he _ _ _ _ _ _ _ _ _ J6 q6) (fun y s7 ⟨w', H7, J7, r7, hD7, m', hm', w7⟩ => ?_) fun _ _ f => f
        refine wpAny_mono (mt_append (X := cxC X scope _ fp _ _ N') _ _ _ _ (.ref s.heap.objs.size) [w'] (.ref s.heap.objs.size) [y] (fun _ H8 => H8 = upd H7 s.heap.objs.size (.lst (ys ++ [w']))) J7 rfl (.cons r7 .nil) ⟨_, _, _, rfl, rfl, hD7, hz, rfl⟩) (fun _ s8 ⟨_, H8, J8, _, e8⟩ => ?_) fun _ _ f => f
        subst e8
        obtain ⟨k1, k2⟩ := keepT J8
        exact ⟨m', hm', i + 1, ys ++ [w'], _, some v, J8.unpinned, k1, k2, w7⟩
      · rw [if_neg hok] at q6 ⊢
        obtain ⟨_, m', hm', w7⟩ := q6
        obtain ⟨k1, k2⟩ := keepT J6
        exact ⟨m', hm', i + 1, ys, _, some v, J6.unpinned, k1, k2, w7⟩
  refine codeAny_compStart_list loop (T.self X.A 0 _ _ _ t4 loop)
/-- [elt for x in iter if ..] as a value -/
theorem pe_comp {wi : TI} (S : CScope X scope x N' js) (hi : PI X (.Name x px) iter wi) (ht : ∀ C fp s₀ H₀, PTs (cxC X scope C fp s₀ H₀ N') ifs tc) (he : ∀ C fp s₀ H₀, PE (cxC X scope C fp s₀ H₀ N') elt te)
    (hs : ∀ x, foldedSetIterable iter X.env x = pure x := by intro _; rfl) : PE X (.ListComp elt [⟨.Name x px, iter, ifs, 0⟩] scope pos) (tComp wi js tc te) := by
  intro pins s σ H Q I h
  rw [eval_ListComp]
  refine wpAny_comprehension_free (use := none) rfl hs (closureFor_eq (S.cells I.ok)) S.kind S.names (wpAny_mono (hi pins s σ H _ I h) (fun v s1 h1 => ?_) fun _ _ e => e)
  refine wpAny_mono h1 (fun itv s2 ⟨it, fp, tn, J, H2, e, I2, T, t0, hf, R⟩ => ?_) fun _ _ e => e
  subst e
  refine comp_block S I2 T t0 hf ht he R ?_
  intro D H3 s3 σ' H' s' I3 hf3 J3 q
  obtain ⟨m, hm, _⟩ := J3.loc
  exact ⟨m, hm, fun h' hs' => ⟨.ref D, H', cxC_back S I3 hf3 J3 hs', rfl, q⟩⟩
/-- name = [elt for x in iter if ..], where the name is stored ahead of the variables' going -/
theorem ps_setComp {wi : TI} {y : Str} {py spos : Pos} {i : Nat} (S : CScope X scope x N' js) (hN : X.N.Nodup) (hiN : X.N[i]? = some y) (hy : X.env.kindOf y = some .local) (hi : PI X (.Name x px) iter wi) (ht : ∀ C fp s₀ H₀, PTs (cxC X scope C fp s₀ H₀ N') ifs tc) (he : ∀ C fp s₀ H₀, PE (cxC X scope C fp s₀ H₀ N') elt te)
    (hsw : swapsWith (.ListComp elt [⟨.Name x px, iter, ifs, 0⟩] scope pos) (some (.Name y py)) spos.line X.env = pure true) (hs : ∀ x, foldedSetIterable iter X.env x = pure x := by intro _; rfl) :
    PS X (.Assign [.Name y py] (.ListComp elt [⟨.Name x px, iter, ifs, 0⟩] scope pos) spos) (tAsg (tComp wi js tc te) (gName i)) := by
  intro pins s σ H D0 I h
  rw [exec_Assign_Name_used _ _ _ _ hsw]
  refine wpAny_bind (wpAny_standAt (wpAny_bind ?_))
  show wpAny _ X.A (do let _ ← comprehension (.ListComp elt [⟨.Name x px, iter, ifs, 0⟩] scope pos) scope X.env _ (newList []) false (eval iter X.env) (some (assign (.Name y py) X.env))) _ _ s
  refine wpAny_bind (wpAny_mono (wpAny_comprehension_free (use := some (assign (.Name y py) X.env)) (Q := fun _ s' => SP X pins D0 .next s') rfl hs (closureFor_eq (S.cells I.ok)) S.kind S.names (wpAny_mono (hi pins s σ H _ I h) (fun v s1 h1 => ?_) fun _ _ e => e)) (fun _ s' hq => wpAny_pure (wpAny_pure hq)) fun _ _ e => e)
  refine wpAny_mono h1 (fun itv s2 ⟨it, fp, tn, J, H2, e, I2, T, t0, hf, R⟩ => ?_) fun _ _ e => e
  subst e
  refine comp_block (Q := fun v H' => gName i v σ H' D0.nx) S I2 T t0 hf ht he R ?_
  intro D H3 s3 σ' H' s' I3 hf3 J3 q
  obtain ⟨m, hm, _⟩ := J3.loc
  have IX : Inv X pins σ H' s' := cxC_back S I3 hf3 J3 (Heap.SameBut.refl ..)
  have hCL : s3.heap.objs.size ≠ X.env.locals := fun e => by have := I3.lt; rw [e] at this; exact Nat.lt_irrefl _ this
  show wpAny _ X.A (assign (.Name y py) X.env (.ref D)) _ _ _
  refine wpAny_assign_Name (store_ok2 IX hN hiN (.inl hy) (v := .ref D) rfl (fun s5 I5 hsb => ?_) (.inr hy))
  obtain ⟨a, hsb, ha⟩ := hsb
  have hCa : s3.heap.objs.size ≠ a := by
    rcases ha with rfl | ha
    · exact hCL
    · intro e
      obtain ⟨v, o, eo, _⟩ := I3.cell y a ha
      have := Heap.lt_size eo
      rw [← e] at this
      exact Nat.lt_irrefl _ this
  refine ⟨m, hm.sameBut hsb hCa, fun h' hs' => ⟨_, H', ?_, q⟩⟩
  exact I5.turned (it := s3.heap.objs.size) (t' := s5.toks) (fun b o n e => hs'.extBut b o n e) J3.free hCL (.inr I3.sz)
    (fun z c hz e => by
      obtain ⟨v, o, eo, _⟩ := I3.cell z c hz
      have := Heap.lt_size eo
      rw [e] at this
      exact Nat.lt_irrefl _ this)
    (fun p hp e => by
      have := Heap.lt_size (I3.pin p hp).1
      rw [e] at this
      exact Nat.lt_irrefl _ this)
end
end L2
set_option Elab.async false
set_option linter.all false
set_option maxRecDepth 100000
namespace L2
open PySem PySem.Spec PyProof.Rows
/-! ### comprehensions, shut -/
structure PTsw (X : Cx) (ifs : List Expr) (t : TT) : Prop where p : PTs X ifs t
def tMonoE (t : TE) : TE := fun σ H Q => ∃ Q' : VK, t σ H Q' ∧ ∀ v H1, Q' v H1 → Q v H1
theorem PE.mono {X : Cx} {e : Expr} {t : TE} (h : PE X e t) : PE X e (tMonoE t) := fun pins s σ H Q I ⟨Q', h1, h2⟩ =>
  thn (h pins s σ H Q' I h1) fun b s' ⟨v, H', I', r, q⟩ => ⟨v, H', I', r, h2 _ _ q⟩
theorem PTs.mono {X : Cx} {es : List Expr} {t : TT} (h : PTs X es t) : PTs X es (tMono t) := fun pins s σ H Q I ⟨Q', h1, h2⟩ =>
  thn (h pins s σ H Q' I h1) fun b s' ⟨H', I', q⟩ => ⟨H', I', h2 _ _ q⟩
/-- a comprehension's turns, of the source J -/
@[irreducible] def CompB (J : It) (σ : St) (js : List Nat) (tc : TT) (te : TE) (H1 : Hp) (Q : VK) : Prop := ∀ D, H1 D = none → ∃ W : Nat → Nat → List V → Hp → Prop, (∃ m, W 0 m [] (upd H1 D (.lst []))) ∧
  ∀ i m ys H2, W i m ys H2 → H2 D = some (.lst ys) ∧ ((J.stop i H2 ∧ Q (.ref D) H2) ∨ (J.go i H2 ∧ ys.length < sizeLine ∧ ∀ x H3, J.yld i H2 x H3 →
    tMono tc (some x :: slots σ js) H3 fun b H4 => if b = true then tMonoE te (some x :: slots σ js) H4 fun y H5 => H5 D = some (.lst ys) ∧ ∃ m', m' < m ∧ W (i + 1) m' (ys ++ [y]) (upd H5 D (.lst (ys ++ [y])))
      else H4 D = some (.lst ys) ∧ ∃ m', m' < m ∧ W (i + 1) m' ys H4))
def tCompB (wi : TI) (js : List Nat) (tc : TT) (te : TE) : TE := fun σ H Q => wi σ H fun J H1 => CompB J σ js tc te H1 Q
section
variable {X : Cx} {scope : Scope} {x y : Str} {N' : List Str} {js : List Nat} {elt iter c : Expr} {px py pos spos : Pos} {ifs : List Expr} {tc : TT} {te : TE} {wi : TI} {i : Nat}
theorem wts_nil : PTsw X [] tYes := ⟨pts_nil⟩
theorem wts_one {t : TT} (h : PTw X c t) : PTsw X [c] t := ⟨pts_one h.p⟩
theorem we_comp (S : CScope X scope x N' js) (hi : PIw X (.Name x px) iter wi) (ht : ∀ C fp s₀ H₀, PTsw (cxC X scope C fp s₀ H₀ N') ifs tc) (he : ∀ C fp s₀ H₀, PEw (cxC X scope C fp s₀ H₀ N') elt te)
    (hs : ∀ x, foldedSetIterable iter X.env x = pure x := by intro _; rfl) : PEw X (.ListComp elt [⟨.Name x px, iter, ifs, 0⟩] scope pos) (tCompB wi js tc te) :=
  ⟨by unfold tCompB CompB; exact pe_comp S hi.p (fun C fp s₀ H₀ => (ht C fp s₀ H₀).p.mono) (fun C fp s₀ H₀ => (he C fp s₀ H₀).p.mono) hs⟩
theorem ws_setComp (S : CScope X scope x N' js) (hN : X.N.Nodup) (hiN : X.N[i]? = some y) (hy : X.env.kindOf y = some .local) (hi : PIw X (.Name x px) iter wi) (ht : ∀ C fp s₀ H₀, PTsw (cxC X scope C fp s₀ H₀ N') ifs tc) (he : ∀ C fp s₀ H₀, PEw (cxC X scope C fp s₀ H₀ N') elt te)
    (hsw : swapsWith (.ListComp elt [⟨.Name x px, iter, ifs, 0⟩] scope pos) (some (.Name y py)) spos.line X.env = pure true := by rfl) (hs : ∀ x, foldedSetIterable iter X.env x = pure x := by intro _; rfl) :
    PSw X (.Assign [.Name y py] (.ListComp elt [⟨.Name x px, iter, ifs, 0⟩] scope pos) spos) (tAsg (tCompB wi js tc te) (gName i)) :=
  ⟨by unfold tCompB CompB; exact ps_setComp S hN hiN hy hi.p (fun C fp s₀ H₀ => (ht C fp s₀ H₀).p.mono) (fun C fp s₀ H₀ => (he C fp s₀ H₀).p.mono) hsw hs⟩
end
/-- what a comprehension's scope must be, decided -/
def cscOk (psc scope : Scope) (N : List Str) (x : Str) (N' : List Str) (js : List Nat) : Bool :=
  (scope.names.all fun y => !(y.2 == .free) || psc.names.lookup y.1 == some .cell) && (scope.names.all fun y => !(y.2 == .cell)) && scope.kind == .function &&
  (scope.names.all fun y => !(y.2 == .local) || scope.names.lookup y.1 == some .local) && scope.names.lookup x == some .local &&
  (scope.names.all fun y => !(y.2 == .free) || !(scope.names.lookup y.1 == some .local)) && N'.length == js.length + 1 && N'[0]? == some x && decide N'.Nodup &&
  ((List.range js.length).all fun i => match js[i]?, N'[i + 1]? with
    | some j, some y => N[j]? == some y && scope.names.contains (y, NameKind.free)
    | _, _ => false)
theorem CScope.of {X : Cx} {psc scope : Scope} {N : List Str} {x : Str} {N' : List Str} {js : List Nat} (h : cscOk psc scope N x N' js = true) (hX : X.env.scope = psc) (hN : X.N = N) (hc : X.calm = true) : CScope X scope x N' js := by
  unfold cscOk at h
  simp only [Bool.and_eq_true] at h
  obtain ⟨⟨⟨⟨⟨⟨⟨⟨⟨h1, h2⟩, h3⟩, h4⟩, h5⟩, h6⟩, h7⟩, h8⟩, h9⟩, h10⟩ := h
  rw [List.all_eq_true] at h1 h2 h4 h6 h10
  refine ⟨hc, fun y hy e => ?_, fun y hy e => ?_, by simpa using h3, fun y hy e => ?_, by simpa using h5, fun y hy e => ?_, by simpa using h7, by simpa using h8, of_decide_eq_true h9, fun i j hj => ?_⟩
  · have := h1 y hy
    rw [e] at this
    show X.env.scope.names.lookup y.1 = _
    rw [hX]
    simpa using this
  · have := h2 y hy
    rw [e] at this
    simp at this
  · have := h4 y hy
    rw [e] at this
    simpa using this
  · have := h6 _ hy
    rw [e] at this
    simp at this
  · have hi : i < js.length := (List.getElem?_eq_some_iff.mp hj).1
    have := h10 i (List.mem_range.mpr hi)
    rw [hj] at this
    cases q : N'[i + 1]? with
    | none => rw [q] at this; simp at this
    | some y =>
      rw [q] at this
      simp only [Bool.and_eq_true] at this
      exact ⟨y, rfl, by rw [hN]; simpa using this.1, List.contains_iff_mem.mp this.2⟩
/-! ### their readings -/
section
variable {js : List Nat} {te : TE} {tc : TT} {σ : St} {H : Hp} {Q : VK}
/-- any source of n items, no test: src i x is what the i-th item is -/
theorem comp_any {J : It} {n : Nat} (src : Nat → V → Prop) (hz : n ≤ 100000) (Pv : Addr → Nat → List V → Hp → Prop)
    (h0 : ∀ D H1, H D = none → H1 D = some (.lst []) → Same H H1 → Pv D 0 [] H1)
    (hg : ∀ D i ys H', i < n → H' D = some (.lst ys) → Pv D i ys H' → J.go i H' ∧ ∀ x H3, J.yld i H' x H3 → H3 = H' ∧ src i x)
    (hst : ∀ D ys H', H' D = some (.lst ys) → Pv D n ys H' → J.stop n H')
    (hs : ∀ D i x ys H', src i x → i < n → ys.length = i → H' D = some (.lst ys) → Pv D i ys H' → te (some x :: slots σ js) H' fun y H5 => H5 D = some (.lst ys) ∧ ∀ H6, H6 D = some (.lst (ys ++ [y])) → SameBut D H5 H6 → Pv D (i + 1) (ys ++ [y]) H6)
    (hd : ∀ D ys H', ys.length = n → H D = none → H' D = some (.lst ys) → Pv D n ys H' → Q (.ref D) H') :
    CompB J σ js tYes te H Q := by
  unfold CompB
  intro D hD
  refine ⟨fun i m ys H' => m = n - i ∧ i ≤ n ∧ ys.length = i ∧ H' D = some (.lst ys) ∧ Pv D i ys H', ⟨n, by simp, Nat.zero_le _, rfl, upd_same, h0 D _ hD upd_same (Same.upd hD)⟩, ?_⟩
  rintro i m ys H2 ⟨rfl, hi, hy, hD2, p⟩
  refine ⟨hD2, ?_⟩
  by_cases hlt : i < n
  · obtain ⟨g1, g2⟩ := hg D i ys H2 hlt hD2 p
    refine .inr ⟨g1, Nat.lt_of_le_of_lt (m := 100000) (by omega) (by decide), fun x H3 hy3 => ?_⟩
    obtain ⟨rfl, hx⟩ := g2 x H3 hy3
    refine ⟨fun b H4 => b = true ∧ H4 = H3, ⟨rfl, rfl⟩, ?_⟩
    rintro b H4 ⟨rfl, rfl⟩
    rw [if_pos rfl]
    refine ⟨_, hs D i x ys H4 hx hlt hy hD2 p, ?_⟩
    rintro v H5 ⟨hD5, k⟩
    exact ⟨hD5, n - (i + 1), by omega, rfl, hlt, by rw [List.length_append, hy]; rfl, upd_same, k _ upd_same SameBut.self⟩
  · have e : i = n := by omega
    subst e
    exact .inl ⟨hst D ys H2 hD2 p, hd D ys H2 hy hD hD2 p⟩
end
/-! ### sum of a list of ints; == and != of data -/
@[irreducible] def rSum (K : PySem.W.Frag) : List V → Hp → VK → Prop := fun xs H Q => ∃ (p : Addr) (ns : List Int), xs = [.ref p] ∧ SqL K H p (ns.map V.int) ∧ Q (.int ns.sum) H
@[irreducible] def rEqD (b : Bool) : R2 := fun x y H Q => ∃ d d', Rep H d x ∧ Rep H d' y ∧ SeqAt.shaped d = true ∧ SeqAt.shaped d' = true ∧ Q (.bl (b == PyData.eqv d d')) H
section
variable {X : Cx}
theorem cl_sum (hc : X.calm = true) : CallR X (.builtin "sum") (rSum X.K) := by
  unfold rSum
  intro pins s σ H xs us Q I r h
  obtain ⟨p, ns, rfl, hq, q⟩ := h
  obtain ⟨u, rfl, rx⟩ := vals1 r
  cases rx
  obtain ⟨its, r', pl, hz⟩ := I.list hq
  have hi := intsAre_of r'
  obtain ⟨xs', e⟩ := hi.allInts.items
  rw [e] at pl
  refine sum_intListG (I.ok.hd hc) pl.isList fun h' tk t' hk => ⟨.int ns.sum, H, I.kept hk, ⟨t', ?_⟩, q⟩
  rw [preSum_eq, List.take_of_length_le (by simp)]
  rw [← hi.numsOf]
  have e2 : its = (intItems xs').toList := by rw [← e]
  rw [e2, nums_intItems]
theorem rsI {K : PySem.W.Frag} {H : Hp} {p : Addr} {ns : List Int} {Q : VK} (h : SqL K H p (ns.map V.int)) (q : Q (.int ns.sum) H) : rSum K [.ref p] H Q := by unfold rSum; exact ⟨p, ns, rfl, h, q⟩
theorem op_eqD (hu : X.A.units + 64 < cLine) : OpR X (compareOp .Eq) (rEqD true) := by
  unfold rEqD
  intro pins s σ H x y v u Q I rx ry h
  obtain ⟨d, d', h1, h2, s1, s2, q⟩ := h
  obtain ⟨as, ra⟩ := h1.reads I rx
  obtain ⟨bs, rb⟩ := h2.reads I ry
  exact SeqAt.compareEq_shaped ra rb s1 s2 hu ⟨.bl _, H, I, by show _ = _; simp, q⟩
theorem op_neD (hu : X.A.units + 64 < cLine) : OpR X (compareOp .NotEq) (rEqD false) := by
  unfold rEqD
  intro pins s σ H x y v u Q I rx ry h
  obtain ⟨d, d', h1, h2, s1, s2, q⟩ := h
  obtain ⟨as, ra⟩ := h1.reads I rx
  obtain ⟨bs, rb⟩ := h2.reads I ry
  exact SeqAt.compareNe_shaped ra rb s1 s2 hu ⟨.bl _, H, I, by show _ = _; simp, q⟩
theorem reD {b : Bool} {x y : V} {d d' : PyData} {H : Hp} {Q : VK} (h1 : Rep H d x) (h2 : Rep H d' y) (s1 : SeqAt.shaped d = true) (s2 : SeqAt.shaped d' = true) (q : Q (.bl (b == PyData.eqv d d')) H) : rEqD b x y H Q := by
  unfold rEqD; exact ⟨d, d', h1, h2, s1, s2, q⟩
end
/-! ### data that holds no list: nothing of it lies at a list's address -/
mutual
def flatD : PyData → Bool
  | .list _ => false
  | .dict _ => false
  | .tuple ds => flatDs ds
  | _ => true
def flatDs : List PyData → Bool
  | [] => true
  | d :: ds => flatD d && flatDs ds
end
/-! ### tuples stay -/
def SameT (H H' : Hp) : Prop := ∀ b xs, H b = some (.tup xs) → H' b = some (.tup xs)
theorem SameT.trans {H H1 H2 : Hp} (a : SameT H H1) (b : SameT H1 H2) : SameT H H2 := fun c o h => b c o (a c o h)
theorem Same.t {H H' : Hp} (s : Same H H') : SameT H H' := fun b xs h => s _ _ h
theorem SameBut.t {H H' : Hp} {p : Addr} (s : SameBut p H H') {xs : List V} (hp : H p = some (.lst xs)) : SameT H H' := fun b ys h => s.at (ne_of h hp (by intro z; cases z)) h
mutual
theorem Rep.flat {H H' : Hp} (s : SameT H H') : ∀ {d : PyData} {v : V}, flatD d = true → Rep H d v → Rep H' d v
  | .none, _, _, h => h
  | .bool _, _, _, h => h
  | .int _, _, _, h => h
  | .str _, _, _, h => h
  | .list _, _, f, _ => by simp [flatD] at f
  | .dict _, _, f, _ => by simp [flatD] at f
  | .tuple ds, _, f, h => by
    unfold Rep at h ⊢
    obtain ⟨a, ys, rfl, h1, h2⟩ := h
    exact ⟨a, ys, rfl, s _ _ h1, RepL.flat s (by simpa [flatD] using f) h2⟩
theorem RepL.flat {H H' : Hp} (s : SameT H H') : ∀ {ds : List PyData} {vs : List V}, flatDs ds = true → RepL H ds vs → RepL H' ds vs
  | [], _, _, h => h
  | d :: ds, _, f, h => by
    unfold RepL at h ⊢
    obtain ⟨x, ys, rfl, h1, h2⟩ := h
    simp only [flatDs, Bool.and_eq_true] at f
    exact ⟨x, ys, rfl, Rep.flat s f.1 h1, RepL.flat s f.2 h2⟩
end
theorem RepL.get {H : Hp} : ∀ {ds : List PyData} {vs : List V} {i : Nat} {v : V}, RepL H ds vs → vs[i]? = some v → ∃ d, ds[i]? = some d ∧ Rep H d v
  | [], _, i, v, h, e => by cases (show _ = [] from h); simp at e
  | d :: ds, _, i, v, h, e => by
    unfold RepL at h
    obtain ⟨x, ys, rfl, h1, h2⟩ := h
    cases i with
    | zero => simp at e; subst e; exact ⟨d, rfl, h1⟩
    | succ i =>
      rw [List.getElem?_cons_succ] at e ⊢
      exact RepL.get h2 e
theorem RepL.get' {H : Hp} : ∀ {ds : List PyData} {vs : List V} {i : Nat} {d : PyData}, RepL H ds vs → ds[i]? = some d → ∃ v, vs[i]? = some v ∧ Rep H d v
  | [], _, i, d, h, e => by simp at e
  | d' :: ds, _, i, d, h, e => by
    unfold RepL at h
    obtain ⟨x, ys, rfl, h1, h2⟩ := h
    cases i with
    | zero => simp at e; subst e; exact ⟨x, rfl, h1⟩
    | succ i =>
      rw [List.getElem?_cons_succ] at e ⊢
      exact RepL.get' h2 e
theorem RepL.snoc {H : Hp} {ds : List PyData} {vs : List V} {d : PyData} {v : V} (h : RepL H ds vs) (r : Rep H d v) : RepL H (ds ++ [d]) (vs ++ [v]) := RepL.append (RepL.cons r RepL.nil) h
theorem bitsOf {i : Int} {n : Nat} (h : i.natAbs < 2 ^ n) : bits i ≤ n := PySem.intBits_le_iff.mpr h
theorem mulB {i j : Int} {n m : Nat} (h1 : i.natAbs < 2 ^ n) (h2 : j.natAbs < 2 ^ m) (hn : n ≤ 1048576 := by decide) (hm : m ≤ 1048576 := by decide) : IntMulOk i j := by
  refine IntMulOk.of_bits ?_ ?_
  · exact Nat.le_trans (bitsOf h1) hn
  · exact Nat.le_trans (bitsOf h2) hm
/-! ### how long a repr is at most -/
mutual
def shW : PyData → Nat
  | .none => 4
  | .bool _ => 5
  | .int _ => 1921
  | .str x => (reprText x).length
  | .list xs => shWs xs + 4
  | .tuple xs => shWs xs + 4
  | .dict _ => 0
def shWs : List PyData → Nat
  | [] => 0
  | x :: xs => shW x + 2 + shWs xs
end
theorem textFrom_le : ∀ (ts : List Str) (k : Nat) (acc : Str), (textFrom k acc ts).length ≤ acc.length + piled ts
  | [], k, acc => by show acc.length ≤ _; omega
  | t :: r, k, acc => by
    have h := textFrom_le r (k + 1) (acc ++ (if k > 0 then ", " else "" : String) ++ t)
    have e : (acc ++ (if k > 0 then ", " else "" : String) ++ t).length = acc.length + (if k > 0 then 2 else 0) + t.length := by
      rw [strLen_append, strLen_append]
      split <;> rfl
    rw [e] at h
    rw [piled_cons]
    show (textFrom (k + 1) _ r).length ≤ _
    refine Nat.le_trans h ?_
    split <;> omega
theorem tupleText_le (ts : List Str) : (tupleText ts).length ≤ piled ts + 4 := by
  unfold tupleText
  rw [strLen_append, strLen_append]
  have e1 : (("(" : Str)).length = 1 := rfl
  have e2 : ((if ts.length == 1 then ",)" else ")" : String) : Str).length ≤ 2 := by split <;> decide
  rw [e1]
  by_cases h : ts = []
  · subst h; have : (Str.join ", " []).length = 0 := rfl
    omega
  · have := join_length_add ts h
    omega
theorem listText_le (ts : List Str) : (listText ts).length ≤ piled ts + 4 := by
  unfold listText
  rw [strLen_append]
  have := textFrom_le ts 0 "["
  have e1 : (("[" : String) : Str).length = 1 := rfl
  have e2 : (("]" : String) : Str).length = 1 := rfl
  rw [e1] at this
  rw [e2]
  omega
mutual
theorem shown_le : ∀ d : PyData, d.showable = true → d.hasDict = false → d.shown.length ≤ shW d
  | .none, _, _ => by simp only [PyData.shown, shW]; decide
  | .bool b, _, _ => by cases b <;> (simp only [PyData.shown, shW]; decide)
  | .int i, h, _ => by
    simp only [PyData.shown, shW]
    exact int_text_len_1921 (by simpa [PyData.showable] using h)
  | .str x, _, _ => by simp only [PyData.shown, shW]; exact Nat.le_refl _
  | .list xs, h, h2 => by
    simp only [PyData.shown, shW]
    have := shownAll_le xs (by simpa [PyData.showable] using h) (by simpa [PyData.hasDict] using h2)
    have := listText_le (PyData.shownAll xs)
    omega
  | .tuple xs, h, h2 => by
    simp only [PyData.shown, shW]
    have := shownAll_le xs (by simpa [PyData.showable] using h) (by simpa [PyData.hasDict] using h2)
    have := tupleText_le (PyData.shownAll xs)
    omega
  | .dict _, _, h => by simp [PyData.hasDict] at h
theorem shownAll_le : ∀ ds : List PyData, PyData.showableAll ds = true → PyData.hasDictAll ds = false → piled (PyData.shownAll ds) ≤ shWs ds
  | [], _, _ => by simp only [PyData.shownAll, shWs]; exact Nat.le_refl _
  | d :: ds, h, h2 => by
    simp only [PyData.showableAll, Bool.and_eq_true] at h
    simp only [PyData.hasDictAll, Bool.or_eq_false_iff] at h2
    have := shown_le d h.1 h2.1
    have := shownAll_le ds h.2 h2.2
    simp only [PyData.shownAll, shWs, piled_cons]
    omega
end
theorem showInt {i : Int} {n : Nat} (h : i.natAbs < 2 ^ n) (hn : n ≤ 1920 := by decide) : PyData.showable (.int i) = true := by
  simp only [PyData.showable]
  refine decide_eq_true (log_of_bits (Nat.le_trans (bitsOf h) hn) (by decide))
/-! ### the same with the written part named: inside a comprehension -/
section
variable {X : Cx} (K : PySem.W.Frag)
theorem ix_seqK (h : X.K = K := by rfl) : IxR X (rIx K) := by subst h; exact ix_seq
theorem cl_lenK (h : X.K = K := by rfl) : CallR X (.builtin "len") (rLen K) := by subst h; exact cl_len
theorem cl_sumK (hc : X.calm = true) (h : X.K = K := by rfl) : CallR X (.builtin "sum") (rSum K) := by subst h; exact cl_sum hc
end
end L2
set_option Elab.async false
set_option linter.all false
set_option maxRecDepth 100000
namespace L2
open PySem
/-! ### zip of two, each a list or a tuple that is tracked -/
def SqIt (b : Bool) (h : Heap) (i l : Addr) (k : Nat) : Prop := ∃ o, h.get? i = some o ∧ o.cls = .type (bif b then "tuple_iterator" else "list_iterator") ∧ o.data = .fields #[.ref l, .int k 0]
def SqIs (b : Bool) (h : Heap) (l : Addr) (xs : Array Value) : Prop := ∃ o, h.get? l = some o ∧ o.cls = .type (bif b then "tuple" else "list") ∧ ∃ n, o.data = .seq xs n
theorem SqIt.at {b : Bool} {h h' : Heap} {i l : Addr} {k : Nat} (x : SqIt b h i l k) (f : ∀ o, h.get? i = some o → h'.get? i = some o) : SqIt b h' i l k := let ⟨o, ho, r⟩ := x; ⟨o, f o ho, r⟩
theorem SqIs.at {b : Bool} {h h' : Heap} {l : Addr} {xs : Array Value} (x : SqIs b h l xs) (f : ∀ o, h.get? l = some o → h'.get? l = some o) : SqIs b h' l xs := let ⟨o, ho, r⟩ := x; ⟨o, f o ho, r⟩
section
variable {prog : Program} {w : World} {A : Around} {E : Value → Shared → Prop} {s : Shared}
theorem nx_item {b : Bool} {it l : Addr} {i : Nat} {items : Array Value} {x : Value} {Q : Value → Shared → Prop} (hit : SqIt b s.heap it l i) (hl : SqIs b s.heap l items) (hx : items[i]? = some x)
    (hQ : ∀ h', SqIt b h' it l (i + 1) → Heap.SameBut it s.heap h' → Q x { s with heap := h' }) : wpAny (model prog w) A (Builtin.SmallTypes.nextOf (.ref it)) Q E s := by
  cases b with
  | false => exact wpAny_nextOf_list_item hit hl hx hQ
  | true =>
    have ty : s.heap.IsTupleIter it l i := hit
    obtain ⟨o, ho, hc, hd⟩ := id ty; obtain ⟨ol, hol, _, nl, hdl⟩ := hl
    unfold Builtin.SmallTypes.nextOf; refine wpAny_bind (wpAny_callSpecial?_slot (name := Str.ofString "__next__") ty.typeIs F.slot_tuple_iterator_next (wpAny_call_entry F.slot_tuple_iterator_next ty.typeIs F.entry_tuple_iterator_next ?_ (F.args_tuple_iterator_next_1 _)))
    show wpAny _ _ (field (.ref it) 0 >>= _) _ _ s; refine wpAny_bind (wpAny_field ho hd (x := .ref l) rfl ?_)
    show wpAny _ _ (if (Value.ref l == Value.none) = true then _ else _) _ _ s; rw [if_neg (show ¬ ((Value.ref l == Value.none) = true) from Bool.false_ne_true)]
    show wpAny _ _ (field (.ref it) 1 >>= _) _ _ s; refine wpAny_bind (wpAny_field ho hd (x := .int i 0) rfl ?_)
    show wpAny _ _ (seqItems? (.ref l) >>= _) _ _ s; refine wpAny_bind (wpAny_seqItems hol hdl ?_); simp only [Int.toNat_natCast, hx]
    refine wpAny_bind (wpAny_setField ho hd (by simp) (wpAny_pure ⟨x, rfl, wpAny_pure (hQ _ ?_ (Heap.SameBut.update ..))⟩)); refine ⟨_, Heap.get?_update_self _ ho (Obj.isFreed_of_fields (Obj.data_mapFields hd _)), (Obj.cls_mapFields ..).trans hc, ?_⟩
    rw [Obj.data_mapFields hd]; simp [rawInt]
theorem nx_end {b : Bool} {it l : Addr} {i : Nat} {items : Array Value} {Q : Value → Shared → Prop} (hh : A.handled = none) (hit : SqIt b s.heap it l i) (hl : SqIs b s.heap l items) (hx : items[i]? = none)
    (hE : ∀ h' e, Heap.ExtBut it s.heap h' → (∃ o, h'.get? e = some o ∧ o.cls = .type "StopIteration") → E (.ref e) { s with heap := h' }) : wpAny (model prog w) A (Builtin.SmallTypes.nextOf (.ref it)) Q E s := by
  cases b with
  | false => exact wpAny_nextOf_list_end hh hit hl hx hE
  | true =>
    have ty : s.heap.IsTupleIter it l i := hit
    obtain ⟨o, ho, hc, hd⟩ := id ty; obtain ⟨ol, hol, _, nl, hdl⟩ := hl
    unfold Builtin.SmallTypes.nextOf; refine wpAny_bind (wpAny_callSpecial?_slot (name := Str.ofString "__next__") ty.typeIs F.slot_tuple_iterator_next (wpAny_call_entry F.slot_tuple_iterator_next ty.typeIs F.entry_tuple_iterator_next ?_ (F.args_tuple_iterator_next_1 _)))
    show wpAny _ _ (field (.ref it) 0 >>= _) _ _ s; refine wpAny_bind (wpAny_field ho hd (x := .ref l) rfl ?_)
    show wpAny _ _ (if (Value.ref l == Value.none) = true then _ else _) _ _ s; rw [if_neg (show ¬ ((Value.ref l == Value.none) = true) from Bool.false_ne_true)]
    show wpAny _ _ (field (.ref it) 1 >>= _) _ _ s; refine wpAny_bind (wpAny_field ho hd (x := .int i 0) rfl ?_)
    show wpAny _ _ (seqItems? (.ref l) >>= _) _ _ s; refine wpAny_bind (wpAny_seqItems hol hdl ?_); simp only [Int.toNat_natCast, hx]
    refine wpAny_bind (wpAny_rule (wpAny_bind (wpAny_setField ho hd (by simp) ?_))); show wpAny _ _ (newExc (.type "StopIteration") [] >>= _) _ _ _
    refine wpAny_bind ?_; simp only [newExc, newTuple]; refine wpAny_bind (wpAny_newObj_type ?_ (by size_fits))
    refine wpAny_bind (m := firstArgMember _ _) (wpAny_of_eq (a := Value.none) (by first | rfl | (simp only [firstArgMember]; rfl)) ?_); refine wpAny_newObj_type ?_ (by size_fits)
    simp only [raiseNew]; refine wpAny_bind (wpAny_handled ?_)
    first | rw [show A.in1.handled = none from hh] | rw [hh]
    refine wpAny_bind (wpAny_pure (wpAny_throw ?_)); exact hE _ _ (((Heap.SameBut.update ..).extBut.push _).push _) ⟨_, Heap.get?_push_size _ rfl, rfl⟩
/-- what stands of a zip at its turn -/
structure ZAt (b1 b2 : Bool) (z TI TO i1 i2 l1 l2 : Addr) (f : Value) (k : Nat) (h : Heap) : Prop where
  z : IsZip h z TI TO f
  ti : IsPair h TI (.ref i1) (.ref i2)
  to : ∃ a b, IsPair h TO a b
  i1 : SqIt b1 h i1 l1 k
  i2 : SqIt b2 h i2 l2 k
theorem zipN_item {b1 b2 : Bool} {z TI TO i1 i2 l1 l2 : Addr} {k : Nat} {xs ys : Array Value} {x y : Value} {Q : Value → Shared → Prop} (D : ZipApart z TI TO i1 i2 l1 l2) (Z : ZAt b1 b2 z TI TO i1 i2 l1 l2 .none k s.heap)
    (hl1 : SqIs b1 s.heap l1 xs) (hl2 : SqIs b2 s.heap l2 ys) (hx : xs[k]? = some x) (hy : ys[k]? = some y)
    (hQ : ∀ h', ZAt b1 b2 z TI TO i1 i2 l1 l2 (rawInt s.heap.objs.size) (k + 1) h' → IsPair h' s.heap.objs.size x y → (∀ c o, c ≠ z → c ≠ TO → c ≠ i1 → c ≠ i2 → s.heap.get? c = some o → h'.get? c = some o) → Q (.ref s.heap.objs.size) { s with heap := h' }) :
    wpAny (model prog w) A (Builtin.«zip.__next__» ⟨[.ref z], []⟩) (fun fin s' => ∃ v, fin = .done (.ret v) ∧ Q v s') E s := by
  obtain ⟨hz, hTI, ⟨a, b, hTO⟩, h1, h2⟩ := Z
  show wpAny _ _ (field (.ref z) 2 >>= _) _ _ _; refine wpAny_bind (wpAny_field hz rfl (x := .bool false) rfl ?_)
  show wpAny _ _ (field (.ref z) 3 >>= _) _ _ _; refine wpAny_bind (wpAny_field hz rfl (x := .ref TI) rfl ?_); refine wpAny_bind (wpAny_seqItems hTI rfl ?_)
  show wpAny _ _ (Builtin.SmallTypes.ownedTupleIsFree (.ref z) >>= _) _ _ _; refine wpAny_bind ?_; unfold Builtin.SmallTypes.ownedTupleIsFree
  refine wpAny_bind (wpAny_field hz rfl (x := .none) rfl (wpAny_pure ?_)); simp only [if_true]; refine wpAny_bind (wpAny_rule ?_)
  refine wpAny_bind (wpAny_field hz rfl (x := .ref TO) rfl ?_); refine wpAny_bind (wpAny_setField_rec hz (by simp) fun h₁ hz₁ hs₁ => ?_)
  have g₁ := hs₁.extBut; replace hz₁ : IsZip h₁ z TI TO .ellipsis := hz₁; refine wpAny_bind ?_
  simp only [List.zipIdx_cons, List.zipIdx_nil, List.forIn_cons, List.forIn_nil]; refine wpAny_bind (wpAny_bind (wpAny_onRaise ?_))
  show wpAny _ _ (Builtin.SmallTypes.nextOf (.ref i1) >>= _) _ _ _; refine wpAny_bind (nx_item (h1.at fun o e => g₁ _ o D.i1z e) (hl1.at fun o e => g₁ _ o D.l1z e) hx fun h₂ h1₂ hs₂ => wpAny_pure ?_)
  have g₂ := hs₂.extBut; have hTO₂ : IsPair h₂ TO a b := g₂ _ _ D.TOi1 (g₁ _ _ D.TOz hTO); refine wpAny_bind (wpAny_seqItems hTO₂ rfl ?_)
  refine wpAny_bind (wpAny_updateSeq_pair hTO₂ fun h₃ hTO₃ hs₃ => ?_); have g₃ := hs₃.extBut; replace hTO₃ : IsPair h₃ TO x b := hTO₃; refine wpAny_bind (wpAny_letGo (wpAny_pure ?_))
  refine wpAny_bind (wpAny_bind (wpAny_onRaise ?_)); show wpAny _ _ (Builtin.SmallTypes.nextOf (.ref i2) >>= _) _ _ _
  refine wpAny_bind (nx_item (h2.at fun o e => g₃ _ o D.TOi2.symm (g₂ _ o D.i12.symm (g₁ _ o D.i2z e))) (hl2.at fun o e => g₃ _ o D.l2TO (g₂ _ o D.l2i1 (g₁ _ o D.l2z e))) hy fun h₄ h2₄ hs₄ => wpAny_pure ?_)
  have g₄ := hs₄.extBut; have hTO₄ : IsPair h₄ TO x b := g₄ _ _ D.TOi2 hTO₃; refine wpAny_bind (wpAny_seqItems hTO₄ rfl ?_)
  refine wpAny_bind (wpAny_updateSeq_pair hTO₄ fun h₅ hTO₅ hs₅ => ?_); have g₅ := hs₅.extBut; replace hTO₅ : IsPair h₅ TO x y := hTO₅; refine wpAny_bind (wpAny_letGo (wpAny_pure (wpAny_pure ?_)))
  refine wpAny_bind (wpAny_seqItems hTO₅ rfl ?_); refine wpAny_bind (wpAny_newTuple ?_)
  have hsz : h₅.objs.size = s.heap.objs.size := by rw [hs₅.1, hs₄.1, hs₃.1, hs₂.1, hs₁.1]
  have hz₅ : IsZip h₅ z TI TO .ellipsis := g₅ _ _ D.TOz.symm (g₄ _ _ D.i2z.symm (g₃ _ _ D.TOz.symm (g₂ _ _ D.i1z.symm hz₁)))
  have hk₅ : ∀ c o, c ≠ z → c ≠ TO → c ≠ i1 → c ≠ i2 → s.heap.get? c = some o → h₅.get? c = some o := fun c o c1 c2 c3 c4 e => g₅ _ _ c2 (g₄ _ _ c4 (g₃ _ _ c2 (g₂ _ _ c3 (g₁ _ _ c1 e))))
  have h1₅ : SqIt b1 h₅ i1 l1 (k + 1) := h1₂.at fun o e => g₅ _ o D.TOi1.symm (g₄ _ o D.i12 (g₃ _ o D.TOi1.symm e))
  have h2₅ : SqIt b2 h₅ i2 l2 (k + 1) := h2₄.at fun o e => g₅ _ o D.TOi2.symm e
  have hzlt := Heap.lt_size hz₅
  show wpAny _ _ (Builtin.SmallTypes.ownedTupleHandOut (.ref z) (.ref h₅.objs.size) >>= _) _ _ _; refine wpAny_bind ?_; unfold Builtin.SmallTypes.ownedTupleHandOut
  have hz₆ : IsZip (h₅.push { cls := .type "tuple", data := .seq #[x, y] }) z TI TO .ellipsis := Heap.get?_push_of_some _ hz₅; refine wpAny_bind (wpAny_setField_rec hz₆ (by simp) fun h₇ hz₇ hs₇ => ?_)
  replace hz₇ : IsZip h₇ z TI TO (rawInt h₅.objs.size) := hz₇; refine wpAny_setField_rec hz₇ (by simp) fun h₈ hz₈ hs₈ => ?_
  replace hz₈ : IsZip h₈ z TI TO (rawInt h₅.objs.size) := hz₈
  have up : ∀ c o, c ≠ z → h₅.get? c = some o → h₈.get? c = some o := fun c o c1 e => hs₈.extBut _ _ c1 (hs₇.extBut _ _ c1 (Heap.get?_push_of_some _ e))
  have hT₈ : IsPair h₈ h₅.objs.size x y := hs₈.extBut _ _ (Nat.ne_of_gt hzlt) (hs₇.extBut _ _ (Nat.ne_of_gt hzlt) (Heap.get?_push_size _ rfl))
  rw [hsz] at hz₈ hT₈; refine wpAny_pure ⟨_, rfl, ?_⟩; show Q (.ref h₅.objs.size) _; rw [hsz]
  exact hQ h₈ ⟨hz₈, up _ _ D.TIz (hk₅ _ _ D.TIz D.TITO D.TIi1 D.TIi2 hTI), ⟨_, _, up _ _ D.TOz hTO₅⟩, h1₅.at fun o e => up _ o D.i1z e, h2₅.at fun o e => up _ o D.i2z e⟩ hT₈ fun c o c1 c2 c3 c4 e => up c o c1 (hk₅ c o c1 c2 c3 c4 e)
theorem zipN_end {b1 b2 : Bool} {z TI TO i1 i2 l1 l2 : Addr} {k : Nat} {xs ys : Array Value} {Q : Fin → Shared → Prop} (hh : A.handled = none) (D : ZipApart z TI TO i1 i2 l1 l2) (Z : ZAt b1 b2 z TI TO i1 i2 l1 l2 .none k s.heap)
    (hl1 : SqIs b1 s.heap l1 xs) (hl2 : SqIs b2 s.heap l2 ys) (hend : xs[k]? = none ∨ ys[k]? = none)
    (hE : ∀ h' e, (∀ c o, c ≠ z → c ≠ TO → c ≠ i1 → c ≠ i2 → s.heap.get? c = some o → h'.get? c = some o) → (∃ o, h'.get? e = some o ∧ o.cls = .type "StopIteration") → E (.ref e) { s with heap := h' }) :
    wpAny (model prog w) A (Builtin.«zip.__next__» ⟨[.ref z], []⟩) Q E s := by
  obtain ⟨hz, hTI, ⟨a, b, hTO⟩, h1, h2⟩ := Z
  show wpAny _ _ (field (.ref z) 2 >>= _) _ _ _; refine wpAny_bind (wpAny_field hz rfl (x := .bool false) rfl ?_)
  show wpAny _ _ (field (.ref z) 3 >>= _) _ _ _; refine wpAny_bind (wpAny_field hz rfl (x := .ref TI) rfl ?_); refine wpAny_bind (wpAny_seqItems hTI rfl ?_)
  show wpAny _ _ (Builtin.SmallTypes.ownedTupleIsFree (.ref z) >>= _) _ _ _; refine wpAny_bind ?_; unfold Builtin.SmallTypes.ownedTupleIsFree
  refine wpAny_bind (wpAny_field hz rfl (x := .none) rfl (wpAny_pure ?_)); simp only [if_true]; refine wpAny_bind (wpAny_rule ?_)
  refine wpAny_bind (wpAny_field hz rfl (x := .ref TO) rfl ?_); refine wpAny_bind (wpAny_setField_rec hz (by simp) fun h₁ hz₁ hs₁ => ?_)
  have g₁ := hs₁.extBut; replace hz₁ : IsZip h₁ z TI TO .ellipsis := hz₁; refine wpAny_bind ?_
  simp only [List.zipIdx_cons, List.zipIdx_nil, List.forIn_cons, List.forIn_nil]; refine wpAny_bind (wpAny_bind (wpAny_onRaise ?_))
  show wpAny _ _ (Builtin.SmallTypes.nextOf (.ref i1) >>= _) _ _ _
  cases hx : xs[k]? with
  | none =>
    refine wpAny_bind (nx_end hh (h1.at fun o e => g₁ _ o D.i1z e) (hl1.at fun o e => g₁ _ o D.l1z e) hx fun h₂ e hs₂ he => ?_); obtain ⟨oe, hoe, hce⟩ := he
    have hz₂ : IsZip h₂ z TI TO .ellipsis := hs₂ _ _ D.i1z.symm hz₁; have hez : e ≠ z := fun x => by subst x; rw [hz₂] at hoe; cases hoe; simp at hce
    exact wpAny_setField_rec hz₂ (by simp) fun h₃ _ hs₃ => hE h₃ e (fun c o c1 _ c3 _ x => hs₃.extBut _ _ c1 (hs₂ _ _ c3 (g₁ _ _ c1 x))) ⟨oe, hs₃.extBut _ _ hez hoe, hce⟩
  | some x =>
    have hy : ys[k]? = none := by
      rcases hend with h | h
      · rw [hx] at h; cases h
      · exact h
    refine wpAny_bind (nx_item (h1.at fun o e => g₁ _ o D.i1z e) (hl1.at fun o e => g₁ _ o D.l1z e) hx fun h₂ h1₂ hs₂ => wpAny_pure ?_)
    have g₂ := hs₂.extBut; have hTO₂ : IsPair h₂ TO a b := g₂ _ _ D.TOi1 (g₁ _ _ D.TOz hTO); refine wpAny_bind (wpAny_seqItems hTO₂ rfl ?_)
    refine wpAny_bind (wpAny_updateSeq_pair hTO₂ fun h₃ hTO₃ hs₃ => ?_); have g₃ := hs₃.extBut; refine wpAny_bind (wpAny_letGo (wpAny_pure ?_))
    refine wpAny_bind (wpAny_bind (wpAny_onRaise ?_)); show wpAny _ _ (Builtin.SmallTypes.nextOf (.ref i2) >>= _) _ _ _
    refine wpAny_bind (nx_end hh (h2.at fun o e => g₃ _ o D.TOi2.symm (g₂ _ o D.i12.symm (g₁ _ o D.i2z e))) (hl2.at fun o e => g₃ _ o D.l2TO (g₂ _ o D.l2i1 (g₁ _ o D.l2z e))) hy fun h₄ e hs₄ he => ?_)
    obtain ⟨oe, hoe, hce⟩ := he; have hz₄ : IsZip h₄ z TI TO .ellipsis := hs₄ _ _ D.i2z.symm (g₃ _ _ D.TOz.symm (g₂ _ _ D.i1z.symm hz₁))
    have hez : e ≠ z := fun x => by subst x; rw [hz₄] at hoe; cases hoe; simp at hce
    exact wpAny_setField_rec hz₄ (by simp) fun h₅ _ hs₅ => hE h₅ e (fun c o c1 c2 c3 c4 x => hs₅.extBut _ _ c1 (hs₄ _ _ c4 (g₃ _ _ c2 (g₂ _ _ c3 (g₁ _ _ c1 x))))) ⟨oe, hs₅.extBut _ _ hez hoe, hce⟩
theorem zipN_next {b1 b2 : Bool} {z TI TO i1 i2 l1 l2 : Addr} {k : Nat} {xs ys : Array Value} {x y : Value} {Q : Option Value → Shared → Prop} (D : ZipApart z TI TO i1 i2 l1 l2) (Z : ZAt b1 b2 z TI TO i1 i2 l1 l2 .none k s.heap)
    (hl1 : SqIs b1 s.heap l1 xs) (hl2 : SqIs b2 s.heap l2 ys) (hx : xs[k]? = some x) (hy : ys[k]? = some y)
    (hQ : ∀ h', ZAt b1 b2 z TI TO i1 i2 l1 l2 (rawInt s.heap.objs.size) (k + 1) h' → IsPair h' s.heap.objs.size x y → (∀ c o, c ≠ z → c ≠ TO → c ≠ i1 → c ≠ i2 → s.heap.get? c = some o → h'.get? c = some o) → Q (some (.ref s.heap.objs.size)) { s with heap := h' }) :
    wpAny (model prog w) A (pyNext (.ref z)) Q E s := by
  have hT : s.TypeIs (.ref z) "zip" := ⟨_, Z.z, rfl⟩
  unfold pyNext; refine wpAny_bind (wpAny_attempt (wpAny_callSpecial?_slot (name := Str.ofString "__next__") hT F.slot_zip_next (wpAny_call_entry F.slot_zip_next hT F.entry_zip_next ?_ (F.args_zip_next_1 _))))
  exact zipN_item D Z hl1 hl2 hx hy fun h' a1 a2 a3 => wpAny_pure (hQ h' a1 a2 a3)
theorem zipN_stop {b1 b2 : Bool} {z TI TO i1 i2 l1 l2 : Addr} {k : Nat} {xs ys : Array Value} {Q : Option Value → Shared → Prop} (hh : A.handled = none) (D : ZipApart z TI TO i1 i2 l1 l2) (Z : ZAt b1 b2 z TI TO i1 i2 l1 l2 .none k s.heap)
    (hl1 : SqIs b1 s.heap l1 xs) (hl2 : SqIs b2 s.heap l2 ys) (hend : xs[k]? = none ∨ ys[k]? = none)
    (hQ : ∀ h', (∀ c o, c ≠ z → c ≠ TO → c ≠ i1 → c ≠ i2 → s.heap.get? c = some o → h'.get? c = some o) → Q none { s with heap := h' }) : wpAny (model prog w) A (pyNext (.ref z)) Q E s := by
  have hT : s.TypeIs (.ref z) "zip" := ⟨_, Z.z, rfl⟩
  unfold pyNext; refine wpAny_bind (wpAny_attempt (wpAny_callSpecial?_slot (name := Str.ofString "__next__") hT F.slot_zip_next (wpAny_call_entry F.slot_zip_next hT F.entry_zip_next ?_ (F.args_zip_next_1 _))))
  refine zipN_end hh D Z hl1 hl2 hend fun h' e hk he => ?_; obtain ⟨o, ho, hc⟩ := he
  refine wpAny_bind (wpAny_isInstance (T := "StopIteration") (b := true) ⟨o, ho, hc⟩ isSubtype_stop ?_); exact wpAny_pure (hQ _ hk)
abbrev itO (b : Bool) (l : Addr) : Obj := { cls := .type (bif b then "tuple_iterator" else "list_iterator"), data := .fields #[.ref l, .int 0 0] }
theorem iterN {b : Bool} {l : Addr} {xs : Array Value} {Q : Value → Shared → Prop} (h : SqIs b s.heap l xs) (q : Q (.ref s.heap.objs.size) { s with heap := s.heap.push (itO b l) }) : wpAny (model prog w) A (pyIter (.ref l)) Q E s := by
  cases b with
  | false => exact wpAny_pyIter_list h q
  | true => exact wpAny_pyIter_tuple h q
end
end L2
set_option Elab.async false
set_option linter.all false
set_option maxRecDepth 100000
namespace L2
open PySem PySem.Spec PyProof.Rows
section
variable {X : Cx} {pins : List (Addr × Obj)} {σ : St} {H : Hp} {s : Shared} {h' : Heap}
/-- several untracked records of ours have turned -/
theorem Inv.turnedL {t' : Nat} {fp : List Addr} (I : Inv X pins σ H s) (k : ∀ b o, b ∉ fp → s.heap.get? b = some o → h'.get? b = some o) (hf : ∀ b ∈ fp, FpOk X pins H b) : Inv X pins σ H { s with heap := h', toks := t' } := by
  have nit : ∀ b u, H b = some u → b ∉ fp := fun b u e z => by rw [(hf b z).1] at e; cases e
  refine I.step (g' := s.gens) (d' := s.drawn) (ch := fp) (fun b hb => ?_) (fun b o _ _ hc e _ => k b o hc e) (fun b o _ _ hc e _ => ⟨o.slots, k b o hc e⟩) (fun _ _ _ _ n => n)
    (fun b o hc e => ⟨o, k b o hc e⟩) (fun _ _ e => e) (fun _ _ _ e => e) (fun b ps e => ⟨#[], by rw [e]; simp⟩) (fun m hm => ?_) (fun b u e => ?_) I.bare
  · obtain ⟨f0, f1, f2, f3, f4, f5⟩ := hf b hb
    exact ⟨f3, f1, f4, f5⟩
  · obtain ⟨o, es, ep, ho, r⟩ := hm
    exact ⟨o, es, ep, k _ o (fun z => (hf _ z).2.1 rfl) ho, r⟩
  · refine (I.hok b u e).stay (fun c v hc q => k c v ?_ q) (fun _ q => q) fun _ _ q => q
    rcases hc with z | z
    · rw [z]; exact nit b u e
    · exact nit c _ z
theorem Un.putE {fs ex : List Addr} {H H1 : Hp} {h h1 : Heap} {a : Addr} {u : HO} (x : Un fs ex H H1 h h1) (ha : h.get? a = none) (hn : H1 a = none) : Un fs ex H (upd H1 a u) h h1 where
  keep := x.keep
  slot := x.slot
  free := fun b ob e n m => by rw [upd_ne (fun z => by subst z; rw [ha] at e; cases e)]; exact x.free b ob e n m
  there := x.there
  tups := fun b xs e => by rw [upd_ne (ne_of_none (x.tups b xs e) hn)]; exact x.tups b xs e
  frzs := fun b ob xs e => by rw [upd_ne (ne_of_none (x.frzs b ob xs e) hn)]; exact x.frzs b ob xs e
  tbls := fun b ps e => by
    obtain ⟨m, q⟩ := x.tbls b ps e
    exact ⟨m, by rw [upd_ne (ne_of_none q hn)]; exact q⟩
theorem HOk.putE {P : Program} {w : World} {h : Heap} {a : Addr} {u : HO} (x : HOk P w H h) (hn : H a = none) (new : ObjOk P w (upd H a u) h a u) : HOk P w (upd H a u) h := fun b v e => by
  by_cases hb : b = a
  · subst hb; rw [upd_same] at e; cases e; exact new
  · rw [upd_ne hb] at e
    exact (x b v e).stay (fun c q _ r => r) (fun c q => by rw [upd_ne (ne_of_none q hn)]; exact q) fun c xs q => by rw [upd_ne (ne_of_none q hn)]; exact q
/-- an object that is there is tracked from now on -/
theorem Inv.put {a : Addr} {o : HO} (I : Inv X pins σ H s) (f : FpOk X pins H a) (hs : X.s₀.heap.get? a = none) (new : ObjOk X.prog X.w (upd H a o) s.heap a o) : Inv X pins σ (upd H a o) s :=
  ⟨I.ok, I.os, I.bare, I.base.putE hs f.1, I.loc, I.cell, by rw [upd_ne (Ne.symm f.2.1)]; exact I.free, fun x c e => by rw [upd_ne (f.2.2.2.2.1 x c e)]; exact I.freeC x c e, fun p hp => by
    obtain ⟨q1, q2, q3⟩ := I.pin p hp
    exact ⟨q1, by rw [upd_ne (f.2.2.2.2.2 p hp)]; exact q2, q3⟩, HOk.putE I.hok f.1 new, I.len⟩
/-- what a walked sequence is tracked as -/
def sqO (b : Bool) (xs : List V) : HO := bif b then .tup xs else .lst xs
theorem sqO.inj {b : Bool} {xs ys : List V} (h : some (sqO b xs) = some (sqO b ys)) : xs = ys := by
  cases b <;> (injection h with h; injection h)
theorem Inv.sq {b : Bool} {a : Addr} {xs : List V} (I : Inv X pins σ H s) (h : H a = some (sqO b xs)) : ∃ its : List Value, Vals xs its ∧ SqIs b s.heap a its.toArray := by
  cases b with
  | false => obtain ⟨its, r, p, _⟩ := I.list (SqL.of h); exact ⟨its, r, p.isList⟩
  | true => obtain ⟨its, r, p, _⟩ := I.tuple (SqT.of h); exact ⟨its, r, p⟩
end
def Itz (b1 b2 : Bool) (l1 l2 : Addr) : It :=
  ⟨fun i H => ∃ xs ys x y, H l1 = some (sqO b1 xs) ∧ H l2 = some (sqO b2 ys) ∧ xs[i]? = some x ∧ ys[i]? = some y,
   fun i H v H' => ∃ q x y, v = .ref q ∧ H q = none ∧ H' = upd H q (.tup [x, y]) ∧ ∀ xs ys, H l1 = some (sqO b1 xs) → H l2 = some (sqO b2 ys) → xs[i]? = some x ∧ ys[i]? = some y,
   fun i H => ∃ xs ys, H l1 = some (sqO b1 xs) ∧ H l2 = some (sqO b2 ys) ∧ (xs.length ≤ i ∨ ys.length ≤ i)⟩
structure ZD (z TI TO i1 i2 : Addr) : Prop where
  TIz : TI ≠ z
  TOz : TO ≠ z
  i1z : i1 ≠ z
  i2z : i2 ≠ z
  TITO : TI ≠ TO
  TIi1 : TI ≠ i1
  TIi2 : TI ≠ i2
  TOi1 : TO ≠ i1
  TOi2 : TO ≠ i2
  i12 : i1 ≠ i2
theorem ZD.seq (n : Nat) : ZD (n + 4) (n + 2) (n + 3) n (n + 1) where
  TIz := fun h => absurd (show (n + 2 : Nat) = n + 4 from h) (by omega)
  TOz := fun h => absurd (show (n + 3 : Nat) = n + 4 from h) (by omega)
  i1z := fun h => absurd (show (n : Nat) = n + 4 from h) (by omega)
  i2z := fun h => absurd (show (n + 1 : Nat) = n + 4 from h) (by omega)
  TITO := fun h => absurd (show (n + 2 : Nat) = n + 3 from h) (by omega)
  TIi1 := fun h => absurd (show (n + 2 : Nat) = n from h) (by omega)
  TIi2 := fun h => absurd (show (n + 2 : Nat) = n + 1 from h) (by omega)
  TOi1 := fun h => absurd (show (n + 3 : Nat) = n from h) (by omega)
  TOi2 := fun h => absurd (show (n + 3 : Nat) = n + 1 from h) (by omega)
  i12 := fun h => absurd (show (n : Nat) = n + 1 from h) (by omega)
theorem ZD.all {z TI TO i1 i2 l1 l2 : Addr} (d : ZD z TI TO i1 i2) {H : Hp} {o1 o2 : HO} (e1 : H l1 = some o1) (e2 : H l2 = some o2) (h : ∀ b ∈ [z, TI, TO, i1, i2], H b = none) : ZipApart z TI TO i1 i2 l1 l2 :=
  ⟨d.TIz, d.TOz, d.i1z, d.i2z, d.TITO, d.TIi1, d.TIi2, d.TOi1, d.TOi2, d.i12, ne_of_none e1 (h _ (by simp)), ne_of_none e1 (h _ (by simp)), ne_of_none e1 (h _ (by simp)), ne_of_none e1 (h _ (by simp)), ne_of_none e2 (h _ (by simp)), ne_of_none e2 (h _ (by simp)), ne_of_none e2 (h _ (by simp)), ne_of_none e2 (h _ (by simp))⟩
theorem turn_zip {P : Program} {w : World} {K : PySem.W.Frag} {elts : List Expr} {x1} {tp : Pos} {b1 b2 : Bool} {z TI TO i1 i2 l1 l2 : Addr} (d : ZD z TI TO i1 i2) : Turn P w K (.Tuple elts x1 tp) (Itz b1 b2 l1 l2) [z, TI, TO, i1, i2] z (fun i h => ZAt b1 b2 z TI TO i1 i2 l1 l2 .none i h) where
  mem := by simp
  obj := fun i h st b hb => by
    obtain ⟨a, b', ht⟩ := st.to
    obtain ⟨o1, e1, _, d1⟩ := st.i1
    obtain ⟨o2, e2, _, d2⟩ := st.i2
    simp only [List.mem_cons, List.not_mem_nil, or_false] at hb
    rcases hb with rfl | rfl | rfl | rfl | rfl
    · exact ⟨_, st.z, fun v q => by cases q⟩
    · exact ⟨_, st.ti, fun v q => by cases q⟩
    · exact ⟨_, ht, fun v q => by cases q⟩
    · exact ⟨_, e1, fun v q => by rw [d1] at q; cases q⟩
    · exact ⟨_, e2, fun v q => by rw [d2] at q; cases q⟩
  keep := fun i h h' st k => by
    obtain ⟨a, b, ht⟩ := st.to
    exact ⟨k _ (by simp) _ st.z, k _ (by simp) _ st.ti, ⟨a, b, k _ (by simp) _ ht⟩, st.i1.at fun o e => k _ (by simp) o e, st.i2.at fun o e => k _ (by simp) o e⟩
  item := by
    intro X hP hw hK hc i pins s σ H E I hf st hg
    subst hP hw hK
    obtain ⟨xs, ys, x, y, e1, e2, hx, hy⟩ := hg
    obtain ⟨u1, r1, p1⟩ := I.sq e1
    obtain ⟨u2, r2, p2⟩ := I.sq e2
    obtain ⟨ux, hux, rx⟩ := r1.get hx
    obtain ⟨uy, huy, ry⟩ := r2.get hy
    have D := d.all e1 e2 fun b hb => (hf b hb).1
    refine zipN_next D st p1 p2 (x := ux) (y := uy) (by simpa using hux) (by simpa using huy) fun h' Z' hp hk => ?_
    refine ⟨_, rfl, wpAny_letOwnedTupleGo_zip Z'.z fun h2 hz2 hs2 => ?_⟩
    have kk : ∀ b o, b ∉ [z, TI, TO, i1, i2] → s.heap.get? b = some o → h2.get? b = some o := fun b o hb e => by
      simp only [List.mem_cons, List.not_mem_nil, or_false, not_or] at hb
      exact hs2.extBut b o hb.1 (hk b o hb.1 hb.2.2.1 hb.2.2.2.1 hb.2.2.2.2 e)
    have I1 : Inv X pins σ H { s with heap := h2 } := I.turnedL (t' := s.toks) kk hf
    have fq : FpOk X pins H s.heap.objs.size := I.fpOk (Nat.le_refl _) (I.hok.fresh (Nat.le_refl _))
    have e0 : X.s₀.heap.get? s.heap.objs.size = none := by
      cases q : X.s₀.heap.get? s.heap.objs.size with
      | none => rfl
      | some o => exact absurd (Nat.lt_of_lt_of_le (Heap.lt_size q) I.sz) (Nat.lt_irrefl _)
    have nz : s.heap.objs.size ≠ z := fun q => absurd (Heap.lt_size st.z) (by rw [← q]; exact Nat.lt_irrefl _)
    obtain ⟨a, b, ht⟩ := Z'.to
    refine ⟨.ref s.heap.objs.size, upd H s.heap.objs.size (.tup [x, y]), I1.put fq e0 ⟨⟨small64 (by show 2 ≤ 64; decide), _, hs2.extBut _ _ nz hp, rfl⟩, [ux, uy], .cons rx (.cons ry .nil), ⟨_, hs2.extBut _ _ nz hp, rfl, _, rfl⟩⟩, rfl, ⟨_, x, y, rfl, fq.1, rfl, fun xs' ys' q1 q2 => ?_⟩,
      ⟨hz2, hs2.extBut _ _ d.TIz Z'.ti, ⟨a, b, hs2.extBut _ _ d.TOz ht⟩, Z'.i1.at fun o e => hs2.extBut _ o d.i1z e, Z'.i2.at fun o e => hs2.extBut _ o d.i2z e⟩, fun b hb => ?_⟩
    · rw [e1] at q1; rw [e2] at q2
      rw [← sqO.inj q1, ← sqO.inj q2]
      exact ⟨hx, hy⟩
    · have nb : b ≠ s.heap.objs.size := fun q => by
        obtain ⟨a', b', ht'⟩ := st.to
        obtain ⟨o1, e1', _⟩ := st.i1
        obtain ⟨o2, e2', _⟩ := st.i2
        have lt : ∀ {c o}, s.heap.get? c = some o → c ≠ s.heap.objs.size := fun e => Nat.ne_of_lt (Heap.lt_size e)
        simp only [List.mem_cons, List.not_mem_nil, or_false] at hb
        rcases hb with rfl | rfl | rfl | rfl | rfl
        · exact lt st.z q
        · exact lt st.ti q
        · exact lt ht' q
        · exact lt e1' q
        · exact lt e2' q
      rw [upd_ne nb]
      exact (hf b hb).1
  done := by
    intro X hP hw hK hc i pins s σ H E I hf st hg
    subst hP hw hK
    obtain ⟨xs, ys, e1, e2, hl⟩ := hg
    obtain ⟨u1, r1, p1⟩ := I.sq e1
    obtain ⟨u2, r2, p2⟩ := I.sq e2
    have D := d.all e1 e2 fun b hb => (hf b hb).1
    have l1 := r1.length
    have l2 := r2.length
    have hend : u1.toArray[i]? = none ∨ u2.toArray[i]? = none := by
      rcases hl with h | h
      · left; simp; omega
      · right; simp; omega
    refine zipN_stop (I.ok.hd hc) D st p1 p2 hend fun h' hk => ⟨rfl, I.turnedL (t' := s.toks) (fun b o hb e => ?_) hf⟩
    simp only [List.mem_cons, List.not_mem_nil, or_false, not_or] at hb
    exact hk b o hb.1 hb.2.2.1 hb.2.2.2.1 hb.2.2.2.2 e
  self := fun _ _ _ _ _ st h => wpAny_pyIter_zip st.z h
abbrev zA (b : Bool) (h : Heap) (l : Addr) : Heap := h.push (itO b l)
abbrev zB (b1 b2 : Bool) (h : Heap) (l1 l2 : Addr) : Heap := (zA b1 h l1).push (itO b2 l2)
abbrev zC (b1 b2 : Bool) (h : Heap) (l1 l2 : Addr) : Heap := (zB b1 b2 h l1 l2).push { cls := .type "tuple", data := .seq #[.ref h.objs.size, .ref (zA b1 h l1).objs.size] }
abbrev zE (b1 b2 : Bool) (h : Heap) (l1 l2 : Addr) : Heap := (zC b1 b2 h l1 l2).push { cls := .type "tuple", data := .seq #[.none, .none] }
abbrev zF (b1 b2 : Bool) (h : Heap) (l1 l2 : Addr) : Heap := (zE b1 b2 h l1 l2).push { cls := .type "zip", data := .fields #[.none, .bool false, .bool false, .ref (zB b1 b2 h l1 l2).objs.size, .ref (zC b1 b2 h l1 l2).objs.size] }
theorem meetsZ (b1 b2 : Bool) (l1 l2 : Addr) (xs ys : Array Value) : Meets (Builtin.«zip.__new__» ⟨[.type "zip", .ref l1, .ref l2], []⟩) (fun _ R s => SqIs b1 s.heap l1 xs ∧ SqIs b2 s.heap l2 ys ∧ R (.ok (.ret (.ref (zE b1 b2 s.heap l1 l2).objs.size))) { s with heap := zF b1 b2 s.heap l1 l2 }) :=
  .of_wp fun prog w A R s h => by
    obtain ⟨hp, g, d, tk, os⟩ := s
    obtain ⟨hl1, hl2, h⟩ := h
    have hsub := sub_zip
    have hL1 : SqIs b1 (Shared.heap ⟨hp, g, d, tk, os⟩) l1 xs := hl1
    have hL2 : SqIs b2 (Shared.heap ⟨hp.push (itO b1 l1), g, d, tk, os⟩) l2 ys := hl2.at fun o e => Heap.get?_push_of_some _ e
    wp_walk using iterN hL1, iterN hL2
    exact ⟨_, rfl, h⟩
section
variable {prog : Program} {w : World} {A : Around} {E : Value → Shared → Prop} {s : Shared}
theorem callZ {b1 b2 : Bool} {l1 l2 : Addr} {xs ys : Array Value} {Q : Value → Shared → Prop} (hl1 : SqIs b1 s.heap l1 xs) (hl2 : SqIs b2 s.heap l2 ys)
    (h : ∀ h', ZAt b1 b2 (s.heap.objs.size + 4) (s.heap.objs.size + 2) (s.heap.objs.size + 3) s.heap.objs.size (s.heap.objs.size + 1) l1 l2 .none 0 h' → (∀ c o, s.heap.get? c = some o → h'.get? c = some o) → Q (.ref (s.heap.objs.size + 4)) { s with heap := h' }) :
    wpAny (model prog w) A (call (.type "zip") [.ref l1, .ref l2]) Q E s := by
  refine callType_new F.called_zip (by decide) (F.typeCall_zip_2 _ _) (F.newCall_zip_2 _ _) (fun obj => F.args_object_init_3 obj _ _) F.entry_zip_new (meetsZ b1 b2 l1 l2 xs ys) ⟨hl1, hl2, ?_⟩
  have z1 : (zA b1 s.heap l1).objs.size = s.heap.objs.size + 1 := Heap.size_push ..
  have z2 : (zB b1 b2 s.heap l1 l2).objs.size = s.heap.objs.size + 2 := by rw [Heap.size_push, z1]
  have z3 : (zC b1 b2 s.heap l1 l2).objs.size = s.heap.objs.size + 3 := by rw [Heap.size_push, z2]
  have z4 : (zE b1 b2 s.heap l1 l2).objs.size = s.heap.objs.size + 4 := by rw [Heap.size_push, z3]
  have g5 : (zF b1 b2 s.heap l1 l2).get? (zE b1 b2 s.heap l1 l2).objs.size = some _ := Heap.get?_push_size _ rfl
  have g4 : (zF b1 b2 s.heap l1 l2).get? (zC b1 b2 s.heap l1 l2).objs.size = some _ := Heap.get?_push_of_some _ (Heap.get?_push_size _ rfl)
  have g3 : (zF b1 b2 s.heap l1 l2).get? (zB b1 b2 s.heap l1 l2).objs.size = some _ := Heap.get?_push_of_some _ (Heap.get?_push_of_some _ (Heap.get?_push_size _ rfl))
  have g2 : (zF b1 b2 s.heap l1 l2).get? (zA b1 s.heap l1).objs.size = some _ := Heap.get?_push_of_some _ (Heap.get?_push_of_some _ (Heap.get?_push_of_some _ (Heap.get?_push_size _ rfl)))
  have g1 : (zF b1 b2 s.heap l1 l2).get? s.heap.objs.size = some _ := Heap.get?_push_of_some _ (Heap.get?_push_of_some _ (Heap.get?_push_of_some _ (Heap.get?_push_of_some _ (Heap.get?_push_size _ rfl))))
  show _ ∧ _
  rw [z2, z3, z4] at g5
  rw [z1, z2] at g3
  rw [z3] at g4; rw [z1] at g2; rw [z4]
  exact ⟨⟨_, g5, rfl⟩, h _ ⟨g5, g3, ⟨_, _, g4⟩, ⟨_, g1, rfl, rfl⟩, ⟨_, g2, rfl, rfl⟩⟩ fun c o x => Heap.get?_push_of_some _ (Heap.get?_push_of_some _ (Heap.get?_push_of_some _ (Heap.get?_push_of_some _ (Heap.get?_push_of_some _ x))))⟩
end
def iZip (b1 b2 : Bool) (ta : TA) : TI := fun σ H R => ta σ H fun vs H1 => ∃ l1 l2 xs ys, vs = [.ref l1, .ref l2] ∧ H1 l1 = some (sqO b1 xs) ∧ H1 l2 = some (sqO b2 ys) ∧ R (Itz b1 b2 l1 l2) H1
theorem boot_zip : bootBuiltins (Str.ofString "zip") = some (Value.type "zip") := by decide +kernel
section
variable {X : Cx}
theorem pi_zip {a b : Expr} {ta : TA} {p pos tp : Pos} {elts : List Expr} {x1} {b1 b2 : Bool} (hg : Gl X "zip") (hm : X.mg "zip" = none) (ha : PA X [a, b] ta) (hs : starEach [a, b] X.env = [(false, eval a X.env), (false, eval b X.env)]) (hs2 : starEach [b] X.env = [(false, eval b X.env)]) :
    PI X (.Tuple elts x1 tp) (.Call (.Name "zip" p) [a, b] [] pos) (iZip b1 b2 ta) := by
  intro pins s σ H R I h
  refine Call_ (ld_blt I hg hm boot_zip (PyProof.Rows.callWith_type1 (thn (ha pos pins s σ H _ I h) fun us s1 ⟨vs, H1, I1, r1, q1⟩ => ?_) (by rw [hs, hs2]) (by rw [hs2]; rfl)))
  obtain ⟨l1, l2, xs, ys, e, e1, e2, q⟩ := q1
  subst e
  cases r1 with
  | cons r rr =>
    cases rr with
    | cons r' rr =>
      cases rr
      cases r
      cases r'
      obtain ⟨u1, _, p1⟩ := I1.sq e1
      obtain ⟨u2, _, p2⟩ := I1.sq e2
      refine callZ p1 p2 fun h' Z kk => wpAny_pyIter_zip Z.z ?_
      refine ⟨_, [s1.heap.objs.size + 4, s1.heap.objs.size + 2, s1.heap.objs.size + 3, s1.heap.objs.size, s1.heap.objs.size + 1], _, _, H1, rfl, I1.kept (t' := s1.toks) kk, turn_zip (ZD.seq _), Z, fun b hb => ?_, q⟩
      have hle : s1.heap.objs.size ≤ b := by
        simp only [List.mem_cons, List.not_mem_nil, or_false] at hb
        rcases hb with rfl | rfl | rfl | rfl | rfl
        · exact Nat.le_add_right _ _
        · exact Nat.le_add_right _ _
        · exact Nat.le_add_right _ _
        · exact Nat.le_refl _
        · exact Nat.le_add_right _ _
      exact I1.fpOk hle (I1.hok.fresh hle)
theorem wi_zip (b1 b2 : Bool) {a b : Expr} {ta : TA} {p pos tp : Pos} {elts : List Expr} {x1} (hg : Gl X "zip") (hm : X.mg "zip" = none) (ha : PAw X [a, b] ta) (hs : starEach [a, b] X.env = [(false, eval a X.env), (false, eval b X.env)] := by rfl) (hs2 : starEach [b] X.env = [(false, eval b X.env)] := by first | exact se_Name | exact se_Call | exact se_Subscript | rfl) :
    PIw X (.Tuple elts x1 tp) (.Call (.Name "zip" p) [a, b] [] pos) (iZip b1 b2 ta) := ⟨pi_zip hg hm ha.p hs hs2⟩
end
theorem for_zip {b1 b2 : Bool} {l1 l2 : Addr} {xs ys : List V} {g : TG} {tb : TS} {D : Ends} {σ : St} {H : Hp} (Pv : Nat → St → Hp → Prop) (h0 : Pv 0 σ H) (hl : ∀ i σ H, Pv i σ H → H l1 = some (sqO b1 xs) ∧ H l2 = some (sqO b2 ys))
    (hs : ∀ i x y q σ H H', xs[i]? = some x → ys[i]? = some y → Pv i σ H → H q = none → H' q = some (.tup [x, y]) → Same H H' → g (.ref q) σ H' fun σ2 H2 => tb { D with nx := Pv (i + 1), ct := Pv (i + 1), bk := D.nx } σ2 H2) (hd : ∀ σ H, Pv (min xs.length ys.length) σ H → D.nx σ H) :
    ∃ W : Nat → Nat → St → Hp → Prop, (∃ m, W 0 m σ H) ∧ ∀ i m σ H, W i m σ H →
      ((Itz b1 b2 l1 l2).stop i H ∧ D.nx σ H) ∨ ((Itz b1 b2 l1 l2).go i H ∧ ∃ N : St → Hp → Prop, (∀ σ' H', N σ' H' → ∃ m', m' < m ∧ W (i + 1) m' σ' H') ∧ ∀ x H', (Itz b1 b2 l1 l2).yld i H x H' → g x σ H' fun σ2 H2 => tb { D with nx := N, ct := N, bk := D.nx } σ2 H2) := by
  refine ⟨fun i m σ H => m = min xs.length ys.length - i ∧ i ≤ min xs.length ys.length ∧ Pv i σ H, ⟨_, rfl, Nat.zero_le _, h0⟩, ?_⟩
  rintro i m σ H ⟨rfl, hi, p⟩
  obtain ⟨q1, q2⟩ := hl i σ H p
  by_cases hlt : i < min xs.length ys.length
  · have hx : xs[i]? = some xs[i] := List.getElem?_eq_getElem (by omega)
    have hy : ys[i]? = some ys[i] := List.getElem?_eq_getElem (by omega)
    refine .inr ⟨⟨xs, ys, _, _, q1, q2, hx, hy⟩, Pv (i + 1), fun σ' H' p' => ⟨_, by omega, rfl, hlt, p'⟩, fun v H' y => ?_⟩
    obtain ⟨q, x, y, rfl, hq, rfl, hh⟩ := y
    obtain ⟨h1, h2⟩ := hh xs ys q1 q2
    exact hs i x y q σ H _ h1 h2 p hq upd_same (Same.upd hq)
  · have e : i = min xs.length ys.length := by omega
    subst e
    refine .inl ⟨⟨xs, ys, q1, q2, ?_⟩, hd σ H p⟩
    omega
end L2
set_option Elab.async false
set_option linter.all false
set_option maxRecDepth 100000
namespace L2
open PySem
/-! ### tuples among the objects of the text -/
def intsAre : List Value → List Int → Bool
  | [], [] => true
  | .int i _ :: vs, n :: ns => decide (i = n) && intsAre vs ns
  | _, _ => false
def intsIn (K : PySem.W.Frag) (a : Addr) (ns : List Int) : Bool :=
  match K.lookup a with
  | some o => (match o.cls with | .type n => n == "tuple" | _ => false) && (match o.data with | .seq xs _ => decide (xs.size ≤ 64) && intsAre xs.toList ns | _ => false)
  | none => false
theorem intsAre.vals : ∀ {vs : List Value} {ns : List Int}, intsAre vs ns = true → Vals (ns.map V.int) vs
  | [], [], _ => .nil
  | v :: vs, n :: ns, h => by
    cases v with
    | int i t =>
      have h' : (decide (i = n) && intsAre vs ns) = true := h
      rw [Bool.and_eq_true] at h'
      have e := of_decide_eq_true h'.1
      subst e
      exact .cons ⟨t, rfl⟩ (intsAre.vals h'.2)
    | _ => cases h
  | [], _ :: _, h => by cases h
  | v :: _, [], h => by cases v <;> cases h
theorem sqT_ints {K : PySem.W.Frag} {H : Hp} {a : Addr} {ns : List Int} (h : intsIn K a ns = true) : SqT K H a (ns.map V.int) := by
  unfold intsIn at h
  split at h
  · rename_i o ho
    rw [Bool.and_eq_true] at h
    obtain ⟨h1, h2⟩ := h
    split at h1
    · rename_i n hn
      split at h2
      · rename_i xs m hx
        rw [Bool.and_eq_true] at h2
        have e : n = "tuple" := by simpa using h1
        subst e
        exact .inr ⟨o, xs, m, ho, hn, hx, small64 (of_decide_eq_true h2.1), intsAre.vals h2.2⟩
      · cases h2
    · cases h1
  · cases h
theorem SqT.keep {K : PySem.W.Frag} {H H' : Hp} {a : Addr} {xs : List V} (s : Same H H') (h : SqT K H a xs) : SqT K H' a xs := by
  rcases h with (h | ⟨o, h⟩) | h
  · exact .inl (.inl (s _ _ h))
  · exact .inl (.inr ⟨o, s _ _ h⟩)
  · exact .inr h
mutual
def RepK (K : PySem.W.Frag) (H : Hp) : PyData → V → Prop
  | .none, v => v = .non
  | .bool b, v => v = .bl b
  | .int i, v => v = .int i
  | .str x, v => v = .str x
  | .list ds, v => ∃ a xs, v = .ref a ∧ H a = some (.lst xs) ∧ RepKL K H ds xs
  | .tuple ds, v => ∃ a xs, v = .ref a ∧ SqT K H a xs ∧ RepKL K H ds xs
  | .dict kvs, v => kvs = [] ∧ ∃ a, v = .ref a ∧ H a = some (.dK [])
def RepKL (K : PySem.W.Frag) (H : Hp) : List PyData → List V → Prop
  | [], vs => vs = []
  | d :: ds, vs => ∃ x xs, vs = x :: xs ∧ RepK K H d x ∧ RepKL K H ds xs
end
mutual
theorem Rep.k {K : PySem.W.Frag} {H : Hp} : ∀ {d : PyData} {v : V}, Rep H d v → RepK K H d v
  | .none, _, h => h
  | .bool _, _, h => h
  | .int _, _, h => h
  | .str _, _, h => h
  | .list ds, _, h => by
    unfold Rep at h; unfold RepK
    obtain ⟨a, xs, rfl, h1, h2⟩ := h
    exact ⟨a, xs, rfl, h1, RepL.k h2⟩
  | .tuple ds, _, h => by
    unfold Rep at h; unfold RepK
    obtain ⟨a, xs, rfl, h1, h2⟩ := h
    exact ⟨a, xs, rfl, SqT.of h1, RepL.k h2⟩
  | .dict kvs, _, h => by unfold Rep at h; unfold RepK; exact h
theorem RepL.k {K : PySem.W.Frag} {H : Hp} : ∀ {ds : List PyData} {vs : List V}, RepL H ds vs → RepKL K H ds vs
  | [], _, h => h
  | d :: ds, _, h => by
    unfold RepL at h; unfold RepKL
    obtain ⟨x, xs, rfl, h1, h2⟩ := h
    exact ⟨x, xs, rfl, Rep.k h1, RepL.k h2⟩
end
theorem RepK.tup {K : PySem.W.Frag} {H : Hp} {a : Addr} {xs : List V} {ds : List PyData} (h : SqT K H a xs) (r : RepKL K H ds xs) : RepK K H (.tuple ds) (.ref a) := by
  unfold RepK; exact ⟨a, xs, rfl, h, r⟩
theorem RepKL.ints {K : PySem.W.Frag} {H : Hp} : ∀ ns : List Int, RepKL K H (ns.map PyData.int) (ns.map V.int)
  | [] => by unfold RepKL; rfl
  | n :: ns => by unfold RepKL; exact ⟨_, _, rfl, by unfold RepK; rfl, RepKL.ints ns⟩
section
variable {X : Cx} {pins : List (Addr × Obj)} {σ : St} {H : Hp} {s : Shared}
mutual
theorem RepK.reads (I : Inv X pins σ H s) : ∀ {d : PyData} {v : V} {u : Value}, RepK X.K H d v → RelV v u → ∃ as, Reads s.heap u d as
  | .none, _, u, h, r => by
    cases (show _ = V.non from h); cases (show u = Value.none from r); exact ⟨_, .none⟩
  | .bool b, _, u, h, r => by
    cases (show _ = V.bl b from h); cases (show u = Value.bool b from r); exact ⟨_, .bool b⟩
  | .int b, _, u, h, r => by
    cases (show _ = V.int b from h); obtain ⟨t, q⟩ := (show ∃ t, u = Value.int b t from r); cases q; exact ⟨_, .int b t⟩
  | .str b, _, u, h, r => by
    cases (show _ = V.str b from h); obtain ⟨t, q⟩ := (show ∃ t, u = Value.str b t from r); cases q; exact ⟨_, .str b t⟩
  | .list ds, v, u, h, r => by
    unfold RepK at h
    obtain ⟨a, xs, rfl, h1, h2⟩ := h
    cases (show u = Value.ref a from r)
    obtain ⟨_, its, n, r', e⟩ := (show ObjOk X.prog X.w H s.heap a (.lst xs) from I.hok a _ h1)
    obtain ⟨as, q⟩ := RepKL.reads I h2 r'
    exact ⟨_, .list e rfl rfl (by simpa using q)⟩
  | .tuple ds, v, u, h, r => by
    unfold RepK at h
    obtain ⟨a, xs, rfl, h1, h2⟩ := h
    cases (show u = Value.ref a from r)
    obtain ⟨its, r', ⟨o, e, hc, n, hd⟩, _⟩ := I.tuple h1
    obtain ⟨as, q⟩ := RepKL.reads I h2 r'
    exact ⟨_, .tuple e hc hd (by simpa using q)⟩
  | .dict kvs, v, u, h, r => Rep.reads I (d := .dict kvs) (by unfold Rep; unfold RepK at h; exact h) r
theorem RepKL.reads (I : Inv X pins σ H s) : ∀ {ds : List PyData} {vs : List V} {us : List Value}, RepKL X.K H ds vs → Vals vs us → ∃ as, ReadsAll s.heap us ds as
  | [], _, us, h, r => by
    cases (show _ = [] from h); cases r; exact ⟨_, .nil⟩
  | d :: ds, _, us, h, r => by
    unfold RepKL at h
    obtain ⟨x, xs, rfl, h1, h2⟩ := h
    cases r with
    | cons r1 r2 =>
      obtain ⟨as, q1⟩ := RepK.reads I h1 r1
      obtain ⟨bs, q2⟩ := RepKL.reads I h2 r2
      exact ⟨_, .cons q1 q2⟩
end
end
@[irreducible] def rEqK (K : PySem.W.Frag) (b : Bool) : R2 := fun x y H Q => ∃ d d', RepK K H d x ∧ RepK K H d' y ∧ SeqAt.shaped d = true ∧ SeqAt.shaped d' = true ∧ Q (.bl (b == PyData.eqv d d')) H
section
variable {X : Cx}
theorem op_eqK (K : PySem.W.Frag) (hu : X.A.units + 64 < cLine) (hK : X.K = K := by rfl) : OpR X (compareOp .Eq) (rEqK K true) := by
  subst hK
  unfold rEqK
  intro pins s σ H x y v u Q I rx ry h
  obtain ⟨d, d', h1, h2, s1, s2, q⟩ := h
  obtain ⟨as, ra⟩ := h1.reads I rx
  obtain ⟨bs, rb⟩ := h2.reads I ry
  exact SeqAt.compareEq_shaped ra rb s1 s2 hu ⟨.bl _, H, I, by show _ = _; simp, q⟩
end
section
variable {K : PySem.W.Frag} {H : Hp} {p : Addr} {xs : List V} {i : Int} {v : V} {Q : VK}
theorem reK {b : Bool} {x y : V} {d d' : PyData} (h1 : RepK K H d x) (h2 : RepK K H d' y) (s1 : SeqAt.shaped d = true) (s2 : SeqAt.shaped d' = true) (q : Q (.bl (b == PyData.eqv d d')) H) : rEqK K b x y H Q := by
  unfold rEqK; exact ⟨d, d', h1, h2, s1, s2, q⟩
theorem ixK (h : SqT K H p xs) (e : atI xs i = some v) (q : Q v H) : rIx K (.ref p) (.int i) H Q := .inr (.inl ⟨p, xs, i, v, rfl, rfl, h, e, q⟩)
end
theorem cutV_lo (xs : List V) (k : Nat) : cutV xs (some (k : Int)) none = xs.drop k := by
  unfold cutV
  rw [HT.sIx_nat, HT.sIx_none]
  by_cases h : k ≤ xs.length
  · rw [Nat.min_eq_left h]
    exact List.take_of_length_le (by rw [List.length_drop]; exact Nat.le_refl _)
  · rw [Nat.min_eq_right (by omega), List.drop_of_length_le (Nat.le_refl _), List.drop_of_length_le (by omega), List.take_nil]
theorem cutV_hi (xs : List V) (k : Nat) : cutV xs none (some (k : Int)) = xs.take k := by
  unfold cutV
  rw [HT.sIx_nat, HT.sIx_none, List.drop_zero, Nat.sub_zero]
  by_cases h : k ≤ xs.length
  · rw [Nat.min_eq_left h]
  · rw [Nat.min_eq_right (by omega), List.take_of_length_le (Nat.le_refl _), List.take_of_length_le (by omega)]
/-- a slice of a list: a new one -/
@[irreducible] def rSlN (K : PySem.W.Frag) : V → Option Int → Option Int → Hp → VK → Prop := rSlL K
theorem sl_listN {X : Cx} (K : PySem.W.Frag) (h : X.K = K := by rfl) : SlR X (rSlN K) := by subst h; unfold rSlN; exact sl_list
theorem slL {K : PySem.W.Frag} {H : Hp} {a : Addr} {xs ys : List V} {lo hi : Option Int} {Q : VK} (h : H a = some (.lst xs)) (e : cutV xs lo hi = ys) (k : ∀ q H', H q = none → H' q = some (.lst ys) → Same H H' → Q (.ref q) H') : rSlN K (.ref a) lo hi H Q := by
  unfold rSlN; exact ⟨a, xs, rfl, SqL.of h, fun p hp => by rw [e]; exact k p _ hp upd_same (Same.upd hp)⟩
end L2
set_option Elab.async false
set_option linter.all false
set_option maxRecDepth 100000
namespace L2
open PySem
section
variable {σ : St} {js : List Nat} {te : TE} {H : Hp} {Q : VK}
theorem snoc_all {R : Nat → V → Prop} {ys : List V} {y : V} (h : ∀ (j : Nat) z, ys[j]? = some z → R j z) (r : R ys.length y) : ∀ (j : Nat) z, (ys ++ [y])[j]? = some z → R j z := fun j z hj => by
  by_cases hji : j < ys.length
  · rw [List.getElem?_append_left hji] at hj; exact h j z hj
  · rw [List.getElem?_append_right (by omega)] at hj
    have : j - ys.length = 0 := by
      by_cases q : j - ys.length = 0
      · exact q
      · rw [List.getElem?_eq_none (by simp; omega)] at hj; cases hj
    rw [this] at hj
    have hj' : y = z := by simpa using hj
    have : j = ys.length := by omega
    subst this hj'
    exact r
/-- items that make new tuples alone -/
theorem comp_mapT {J : It} {n : Nat} (src : Nat → V → Prop) (R : Nat → V → Hp → Prop) (hR : ∀ i y H1 H2, SameT H1 H2 → R i y H1 → R i y H2) (hz : n ≤ 100000)
    (hg : ∀ i H', Same H H' → i < n → J.go i H' ∧ ∀ x H3, J.yld i H' x H3 → H3 = H' ∧ src i x) (hst : ∀ H', Same H H' → J.stop n H')
    (hs : ∀ i x H' (Q' : VK), src i x → i < n → Same H H' → (∀ y H5, Same H' H5 → R i y H5 → Q' y H5) → te (some x :: slots σ js) H' Q')
    (hd : ∀ D ys H', H D = none → H' D = some (.lst ys) → Same H H' → ys.length = n → (∀ (i : Nat) (y : V), ys[i]? = some y → R i y H') → Q (.ref D) H') : CompB J σ js tYes te H Q := by
  refine comp_any (J := J) (n := n) src hz (fun D i ys H' => H D = none ∧ Same H H' ∧ ∀ (i : Nat) (y : V), ys[i]? = some y → R i y H') (fun D H1 hD _ s => ⟨hD, s, fun i y h => by simp at h⟩)
    (fun D i ys H' hi _ p => hg i H' p.2.1 hi) (fun D ys H' _ p => hst H' p.2.1) (fun D i x ys H' hx hi hy hD p => ?_) (fun D ys H' hy hD hD' p => hd D ys H' hD hD' p.2.1 hy p.2.2)
  refine hs i x H' _ hx hi p.2.1 fun y H5 s5 r => ?_
  refine ⟨s5 _ _ hD, fun H6 hD6 s6 => ⟨p.1, Same.thru p.1 (p.2.1.trans s5) s6, ?_⟩⟩
  have t6 := s6.t (s5 _ _ hD)
  exact snoc_all (R := fun j z => R j z H6) (fun j z hj => hR j z _ _ (s5.t.trans t6) (p.2.2 j z hj)) (by rw [hy]; exact hR i y _ _ t6 r)
theorem comp_mapL {K : PySem.W.Frag} {a : Addr} {xs : List V} (R : Nat → V → Hp → Prop) (hR : ∀ i y H1 H2, SameT H1 H2 → R i y H1 → R i y H2) (hz : xs.length ≤ 100000) (hl : H a = some (.lst xs))
    (hs : ∀ i x H' (Q' : VK), xs[i]? = some x → Same H H' → (∀ y H5, Same H' H5 → R i y H5 → Q' y H5) → te (some x :: slots σ js) H' Q')
    (hd : ∀ D ys H', H D = none → H' D = some (.lst ys) → Same H H' → ys.length = xs.length → (∀ (i : Nat) (y : V), ys[i]? = some y → R i y H') → Q (.ref D) H') : CompB (Itl K a) σ js tYes te H Q :=
  comp_mapT (fun i x => xs[i]? = some x) R hR hz (fun i H' s hi => ⟨⟨xs, xs[i], SqL.of (s _ _ hl), by simp [hi]⟩, fun x H3 y => ⟨y.1, y.2 xs (SqL.of (s _ _ hl))⟩⟩) (fun H' s => ⟨xs, SqL.of (s _ _ hl), Nat.le_refl _⟩)
    (fun i x H' Q' hx _ s k => hs i x H' Q' hx s k) hd
theorem comp_mapU {K : PySem.W.Frag} {a : Addr} {xs : List V} (R : Nat → V → Hp → Prop) (hR : ∀ i y H1 H2, SameT H1 H2 → R i y H1 → R i y H2) (hz : xs.length ≤ 100000) (hl : H a = some (.tup xs))
    (hs : ∀ i x H' (Q' : VK), xs[i]? = some x → Same H H' → (∀ y H5, Same H' H5 → R i y H5 → Q' y H5) → te (some x :: slots σ js) H' Q')
    (hd : ∀ D ys H', H D = none → H' D = some (.lst ys) → Same H H' → ys.length = xs.length → (∀ (i : Nat) (y : V), ys[i]? = some y → R i y H') → Q (.ref D) H') : CompB (Itt K a) σ js tYes te H Q :=
  comp_mapT (fun i x => xs[i]? = some x) R hR hz (fun i H' s hi => ⟨⟨xs, xs[i], SqT.of (s _ _ hl), by simp [hi]⟩, fun x H3 y => ⟨y.1, y.2 xs (SqT.of (s _ _ hl))⟩⟩) (fun H' s => ⟨xs, SqT.of (s _ _ hl), Nat.le_refl _⟩)
    (fun i x H' Q' hx _ s k => hs i x H' Q' hx s k) hd
theorem comp_mapR {lo : Int} {n : Nat} (R : Nat → V → Hp → Prop) (hR : ∀ i y H1 H2, SameT H1 H2 → R i y H1 → R i y H2) (hz : n ≤ 100000)
    (hs : ∀ i H' (Q' : VK), i < n → Same H H' → (∀ y H5, Same H' H5 → R i y H5 → Q' y H5) → te (some (.int (lo + (i : Nat))) :: slots σ js) H' Q')
    (hd : ∀ D ys H', H D = none → H' D = some (.lst ys) → Same H H' → ys.length = n → (∀ (i : Nat) (y : V), ys[i]? = some y → R i y H') → Q (.ref D) H') : CompB (Itr lo n) σ js tYes te H Q :=
  comp_mapT (fun i x => x = .int (lo + (i : Nat))) R hR hz (fun i H' s hi => ⟨hi, fun x H3 y => y⟩) (fun H' s => Nat.le_refl _)
    (fun i x H' Q' hx hi s k => by subst hx; exact hs i H' Q' hi s k) hd
/-- what a feed at p (its list at L) keeps -/
structure FeedLike (p L : Addr) (Fd : Hp → Prop) : Prop where
  but : ∀ D H1 H2, D ≠ p → D ≠ L → SameBut D H1 H2 → Fd H1 → Fd H2
  same : ∀ H1 H2, Same H1 H2 → Fd H1 → Fd H2
  lst : ∀ H', Fd H' → ∃ xs, H' p = some (.lst xs)
  np : ∀ H' D, Fd H' → H' D = none → D ≠ p ∧ D ≠ L
theorem SameBut.thru {p l : Addr} {H0 H1 H2 : Hp} (hl : H0 l = none) (s : SameBut p H0 H1) (b : SameBut l H1 H2) : SameBut p H0 H2 := fun c o e => by
  have n := Hide.ne e
  have e0 : H0 c = some o := by rw [Hide.at n] at e; exact e
  have nl : c ≠ l := fun z => by subst z; rw [hl] at e0; cases e0
  exact Hide.of n (b.at nl (s.at n e0))
/-- items that draw from a feed, and make new tuples -/
theorem comp_fd {J : It} {n : Nat} {p L : Addr} {Fd : Hp → Prop} (fl : FeedLike p L Fd) (F0 : Fd H) (src : Nat → V → Prop) (R : Nat → V → Hp → Prop) (hR : ∀ i y H1 H2, SameT H1 H2 → R i y H1 → R i y H2) (hz : n ≤ 100000)
    (hg : ∀ i H', SameBut p H H' → i < n → J.go i H' ∧ ∀ x H3, J.yld i H' x H3 → H3 = H' ∧ src i x) (hst : ∀ H', SameBut p H H' → J.stop n H')
    (hs : ∀ i x H' (Q' : VK), src i x → i < n → Fd H' → SameBut p H H' → (∀ y H5, Fd H5 → SameBut p H' H5 → R i y H5 → Q' y H5) → te (some x :: slots σ js) H' Q')
    (hd : ∀ D ys H', H D = none → H' D = some (.lst ys) → Fd H' → SameBut p H H' → ys.length = n → (∀ (i : Nat) (y : V), ys[i]? = some y → R i y H') → Q (.ref D) H') : CompB J σ js tYes te H Q := by
  refine comp_any (J := J) (n := n) src hz (fun D i ys H' => H D = none ∧ Fd H' ∧ SameBut p H H' ∧ ∀ (i : Nat) (y : V), ys[i]? = some y → R i y H') (fun D H1 hD _ s => ⟨hD, fl.same _ _ s F0, s.but, fun i y h => by simp at h⟩)
    (fun D i ys H' hi _ q => hg i H' q.2.2.1 hi) (fun D ys H' _ q => hst H' q.2.2.1) (fun D i x ys H' hx hi hy hD q => ?_) (fun D ys H' hy hD hD' q => hd D ys H' hD hD' q.2.1 q.2.2.1 hy q.2.2.2)
  obtain ⟨np, nL⟩ := fl.np H D F0 q.1
  refine hs i x H' _ hx hi q.2.1 q.2.2.1 fun y H5 F5 s5 r => ?_
  obtain ⟨xs, hp⟩ := fl.lst H' q.2.1
  have hD5 := s5.at np hD
  refine ⟨hD5, fun H6 hD6 s6 => ⟨q.1, fl.but D _ _ np nL s6 F5, SameBut.thru q.1 (q.2.2.1.trans s5) s6, ?_⟩⟩
  have t6 := s6.t hD5
  exact snoc_all (R := fun j z => R j z H6) (fun j z hj => hR j z _ _ ((s5.t hp).trans t6) (q.2.2.2 j z hj)) (by rw [hy]; exact hR i y _ _ t6 r)
theorem comp_fdL {K : PySem.W.Frag} {a : Addr} {xs : List V} {p L : Addr} {Fd : Hp → Prop} (fl : FeedLike p L Fd) (F0 : Fd H) (R : Nat → V → Hp → Prop) (hR : ∀ i y H1 H2, SameT H1 H2 → R i y H1 → R i y H2) (hz : xs.length ≤ 100000) (na : a ≠ p) (hl : H a = some (.lst xs))
    (hs : ∀ i x H' (Q' : VK), xs[i]? = some x → Fd H' → SameBut p H H' → (∀ y H5, Fd H5 → SameBut p H' H5 → R i y H5 → Q' y H5) → te (some x :: slots σ js) H' Q')
    (hd : ∀ D ys H', H D = none → H' D = some (.lst ys) → Fd H' → SameBut p H H' → ys.length = xs.length → (∀ (i : Nat) (y : V), ys[i]? = some y → R i y H') → Q (.ref D) H') : CompB (Itl K a) σ js tYes te H Q :=
  comp_fd fl F0 (fun i x => xs[i]? = some x) R hR hz (fun i H' s hi => ⟨⟨xs, xs[i], SqL.of (s.at na hl), by simp [hi]⟩, fun x H3 y => ⟨y.1, y.2 xs (SqL.of (s.at na hl))⟩⟩) (fun H' s => ⟨xs, SqL.of (s.at na hl), Nat.le_refl _⟩)
    (fun i x H' Q' hx _ f s k => hs i x H' Q' hx f s k) hd
theorem comp_fdR {lo : Int} {n : Nat} {p L : Addr} {Fd : Hp → Prop} (fl : FeedLike p L Fd) (F0 : Fd H) (R : Nat → V → Hp → Prop) (hR : ∀ i y H1 H2, SameT H1 H2 → R i y H1 → R i y H2) (hz : n ≤ 100000)
    (hs : ∀ i H' (Q' : VK), i < n → Fd H' → SameBut p H H' → (∀ y H5, Fd H5 → SameBut p H' H5 → R i y H5 → Q' y H5) → te (some (.int (lo + (i : Nat))) :: slots σ js) H' Q')
    (hd : ∀ D ys H', H D = none → H' D = some (.lst ys) → Fd H' → SameBut p H H' → ys.length = n → (∀ (i : Nat) (y : V), ys[i]? = some y → R i y H') → Q (.ref D) H') : CompB (Itr lo n) σ js tYes te H Q :=
  comp_fd fl F0 (fun i x => x = .int (lo + (i : Nat))) R hR hz (fun i H' s hi => ⟨hi, fun x H3 y => y⟩) (fun H' s => Nat.le_refl _)
    (fun i x H' Q' hx hi f s k => by subst hx; exact hs i H' Q' hi f s k) hd
end
/-! ### results by places as data -/
theorem RepL.ofIdx {H : Hp} : ∀ {ds : List PyData} {ys : List V}, ys.length = ds.length → (∀ (i : Nat) (y : V), ys[i]? = some y → ∃ d, ds[i]? = some d ∧ Rep H d y) → RepL H ds ys
  | [], [], _, _ => RepL.nil
  | d :: ds, y :: ys, hl, h => by
    obtain ⟨d', e, r⟩ := h 0 y rfl
    cases (show d = d' by simpa using e)
    exact RepL.cons r (RepL.ofIdx (by simpa using hl) fun i z hz => by simpa using h (i + 1) z (by simpa using hz))
  | [], _ :: _, hl, _ => by simp at hl
  | _ :: _, [], hl, _ => by simp at hl
/-- ints by places: one list of them -/
theorem ints_of {P : Nat → Int → Prop} : ∀ {ys : List V}, (∀ (i : Nat) (y : V), ys[i]? = some y → ∃ n, y = .int n ∧ P i n) → ∃ ns : List Int, ys = ns.map V.int ∧ ∀ (i : Nat) n, ns[i]? = some n → P i n
  | [], _ => ⟨[], rfl, fun i n h => by simp at h⟩
  | y :: ys, h => by
    obtain ⟨n, rfl, hn⟩ := h 0 y rfl
    obtain ⟨ns, rfl, hs⟩ := ints_of (P := fun i => P (i + 1)) (ys := ys) fun i z hz => h (i + 1) z (by simpa using hz)
    refine ⟨n :: ns, rfl, fun i m hm => ?_⟩
    cases i with
    | zero => cases (show n = m by simpa using hm); exact hn
    | succ i => exact hs i m (by simpa using hm)
end L2
set_option Elab.async false
set_option linter.all false
set_option maxRecDepth 100000
namespace L2
open PySem PySem.Spec PyProof.Rows
section
variable {X : Cx}
/-! ### t + u of tuples, either void -/
@[irreducible] def rCatU (K : PySem.W.Frag) : R2 := fun x y H Q => ∃ a b xs ys, x = .ref a ∧ y = .ref b ∧ H a = some (.tup xs) ∧ H b = some (.tup ys) ∧ xs.length + ys.length ≤ 1000 ∧ ∀ c H', Same H H' → H' c = some (.tup (xs ++ ys)) → Q (.ref c) H'
theorem catU {K : PySem.W.Frag} {H : Hp} {Q : VK} {a b : Addr} {xs ys : List V} (h1 : H a = some (.tup xs)) (h2 : H b = some (.tup ys)) (hz : xs.length + ys.length ≤ 1000) (k : ∀ c H', Same H H' → H' c = some (.tup (xs ++ ys)) → Q (.ref c) H') : rCatU K (.ref a) (.ref b) H Q := by
  unfold rCatU; exact ⟨a, b, xs, ys, rfl, rfl, h1, h2, hz, k⟩
theorem op_catU (K : PySem.W.Frag) (hK : X.K = K := by rfl) : OpR X (binaryOp .Add) (rCatU K) := by
  subst hK
  unfold rCatU
  intro pins s σ H x y v u Q I rx ry h
  obtain ⟨a, b, xs, ys, rfl, rfl, ha, hb, hz, q⟩ := h
  by_cases hx : xs = []
  · cases rx
    cases ry
    subst hx
    obtain ⟨its, r1, p1, _⟩ := I.tuple (SqT.of ha)
    obtain ⟨its2, r2, p2, _⟩ := I.tuple (SqT.of hb)
    cases r1
    obtain ⟨⟨cls, dd, data, sl⟩, ho, hc, n, hd⟩ := id p1
    obtain ⟨⟨cls2, dd2, data2, sl2⟩, ho2, hc2, n2, hd2⟩ := id p2
    simp only at hc hd hc2 hd2
    subst hc hd hc2 hd2
    exact concat_meets ⟨_, ho, rfl⟩ ⟨_, ho2, rfl⟩ noFill_tuple_add seq_tuple_add PySem.F.slot_tuple_add PySem.F.entry_tuple_add (PySem.F.args_tuple_add_2 _ _)
      (tuple_addW0 a b _ _ n n2 dd dd2 sl sl2 rfl) ⟨ho, ho2, ⟨.ref b, H, I, rfl, q b H (Same.refl _) hb⟩⟩
  · refine op_catT pins s σ H _ _ v u Q I rx ry ⟨a, b, xs, ys, rfl, rfl, SqT.of ha, SqT.of hb, hx, Nat.le_trans hz (by decide), fun e => ?_, fun _ p hp => q p _ (Same.upd hp) upd_same⟩
    subst e
    exact q a H (Same.refl _) (by rw [List.append_nil]; exact ha)
/-! ### t.count(int) of a tuple of ints -/
@[irreducible] def rCnt : V → List V → Hp → VK → Prop := fun x vs H Q => ∃ a, ∃ (ns : List Int) (m : Int), x = .ref a ∧ vs = [.int m] ∧ H a = some (.tup (ns.map V.int)) ∧ Q (.int (ns.count m : Nat)) H
theorem cntT {H : Hp} {a : Addr} {ns : List Int} {m : Int} {Q : VK} (h : H a = some (.tup (ns.map V.int))) (q : Q (.int (ns.count m : Nat)) H) : rCnt (.ref a) [.int m] H Q := by
  unfold rCnt; exact ⟨a, ns, m, rfl, rfl, h, q⟩
theorem countP_ints {m : Int} : ∀ {ns : List Int} {us : List Value}, Vals (ns.map V.int) us → us.countP (eqU (.int m)) = ns.count m
  | [], _, h => by cases h; rfl
  | n :: ns, _, h => by
    cases h with
    | cons r hr =>
      obtain ⟨t, rfl⟩ := r
      rw [List.countP_cons, countP_ints hr, List.count_cons]
      have e : eqU (.int m) (.int n t) = (n == m) := by
        show eqV (.int n) (.int m) = _
        simp [eqV]
      rw [e]
theorem mt_cnt : MtR X "tuple.count" rCnt := by
  unfold rCnt
  intro pins s σ H x vs v us Q I rx rv h
  obtain ⟨a, ns, m, rfl, rfl, hH, q⟩ := h
  cases rx
  obtain ⟨u, rfl, ru⟩ := vals1 rv
  obtain ⟨t, rfl⟩ := (show ∃ t, u = Value.int m t from ru)
  obtain ⟨its, r, p, _⟩ := I.tuple (SqT.of hH)
  obtain ⟨⟨cls, dd, data, sl⟩, ho, hc, n, hd⟩ := id p
  simp only at hc hd
  subst hc hd
  have fl : ∀ ns : List Int, (ns.map V.int).all flatV = true := fun ns => by induction ns with | nil => rfl | cons a l ih => show (flatV (V.int a) && (l.map V.int).all flatV) = true; rw [ih]; rfl
  refine call_meets F.slot_tuple_count ⟨_, ho, rfl⟩ F.entry_tuple_count (F.args_tuple_count_2 _ _) (SeqAt.tuple_countAt a its.toArray n dd sl (.int m t) (eqU (.int m))) ⟨ho, fun y hy => mem_eqAt (x := .int m) ⟨t, rfl⟩ rfl r (fl ns) y (by simpa using hy), ?_⟩
  rw [show its.toArray.toList = its from rfl, countP_ints r]
  exact ⟨.int _, H, I.tok _, ⟨_, rfl⟩, q⟩
end
section
variable {X : Cx}
end
end L2
set_option Elab.async false
set_option linter.all false
set_option maxRecDepth 100000
namespace L2
open PySem PySem.Spec PyProof.Rows
/-! ### l.extend(list) -/
@[irreducible] def rExt : V → List V → Hp → VK → Prop := rExtend
theorem mt_ext {X : Cx} : MtR X "list.extend" rExt := by unfold rExt; exact mt_extend
theorem extL {H : Hp} {l b : Addr} {xs zs : List V} {Q : VK} (h : H l = some (.lst xs)) (h2 : H b = some (.lst zs)) (hz : xs.length + zs.length ≤ 1000) (k : ∀ H', H' l = some (.lst (xs ++ zs)) → SameBut l H H' → Q .non H') : rExt (.ref l) [.ref b] H Q := by
  unfold rExt; exact ⟨l, b, xs, zs, rfl, rfl, h, h2, Nat.le_of_lt (small1000 hz), k _ upd_same SameBut.self⟩
/-! ### sum of a tuple of ints -/
section
variable {prog : Program} {w : World} {A : Around} {E : Value → Shared → Prop} {s : Shared} {l : Addr} {xs : Array (Int × Tok)}
theorem sum_tupG {Q : Value → Shared → Prop} (hh : A.handled = none) (hl : s.heap.IsTuple l (intItems xs))
    (h : ∀ h' tk t', (∀ b o, s.heap.get? b = some o → h'.get? b = some o) → Q (.int (preSum (numAt xs) xs.size) t') { s with heap := h', toks := tk }) :
    wpAny (model prog w) A (call (.builtin "sum") [.ref l]) Q E s := by
  have hlt : l < s.heap.objs.size := by obtain ⟨_, e, _⟩ := hl; exact Heap.lt_size e
  refine call_sum_walkG (wpAny_pyIter_tuple hl ?_)
  refine ⟨_, [_, l], [_], _, _, _, numAt xs, rfl, Walks.tuple (A := A.in1) hh _ l (Nat.ne_of_lt hlt) (intItems xs), ⟨⟨_, Heap.get?_push_size _ rfl, rfl, rfl⟩, hl.push _⟩, fun c hc => ?_, (fun _ _ => intItems_at), fun h' tk t' hk => ?_⟩
  · show c < (s.heap.push _).objs.size
    rw [Heap.size_push]
    rcases List.mem_cons.mp hc with rfl | hc
    · exact Nat.lt_succ_self _
    · rcases List.mem_cons.mp hc with rfl | hc
      · exact Nat.lt_succ_of_lt hlt
      · cases hc
  · have := h h' tk t' fun c o e => by
      refine hk c o (fun hm => ?_) (Heap.get?_push_of_some _ e)
      rcases List.mem_cons.mp hm with e1 | hm
      · exact absurd (e1 ▸ Heap.lt_size e) (Nat.lt_irrefl _)
      · cases hm
    simpa [intItems] using this
end
@[irreducible] def rSumT (K : PySem.W.Frag) : List V → Hp → VK → Prop := fun xs H Q => ∃ (p : Addr) (ns : List Int), xs = [.ref p] ∧ SqT K H p (ns.map V.int) ∧ Q (.int ns.sum) H
theorem rsT {K : PySem.W.Frag} {H : Hp} {p : Addr} {ns : List Int} {Q : VK} (h : SqT K H p (ns.map V.int)) (q : Q (.int ns.sum) H) : rSumT K [.ref p] H Q := by unfold rSumT; exact ⟨p, ns, rfl, h, q⟩
theorem cl_sumT {X : Cx} (K : PySem.W.Frag) (hc : X.calm = true) (hK : X.K = K := by rfl) : CallR X (.builtin "sum") (rSumT K) := by
  subst hK
  unfold rSumT
  intro pins s σ H xs us Q I r h
  obtain ⟨p, ns, rfl, hq, q⟩ := h
  obtain ⟨u, rfl, rx⟩ := vals1 r
  cases rx
  obtain ⟨its, r', pl, hz⟩ := I.tuple hq
  have hi := intsAre_of r'
  obtain ⟨xs', e⟩ := hi.allInts.items
  rw [e] at pl
  refine sum_tupG (I.ok.hd hc) pl fun h' tk t' hk => ⟨.int ns.sum, H, I.kept hk, ⟨t', ?_⟩, q⟩
  rw [preSum_eq, List.take_of_length_le (by simp)]
  rw [← hi.numsOf]
  have e2 : its = (intItems xs').toList := by rw [← e]
  rw [e2, nums_intItems]
/-! ### [x for x in list if test] -/
section
variable {js : List Nat} {te : TE} {tc : TT} {σ : St} {H : Hp} {Q : VK}
theorem RepL.atI {α : Type} {g : α → PyData} : ∀ {as : List α} {xs : List V}, RepL H (as.map g) xs → ∀ {i : Nat} {x : V}, xs[i]? = some x → ∃ a, as[i]? = some a ∧ Rep H (g a) x := by
  intro as xs r i x e
  obtain ⟨d, h1, h2⟩ := r.get e
  rw [List.getElem?_map] at h1
  cases q : as[i]? with
  | none => rw [q] at h1; cases h1
  | some a => rw [q] at h1; cases h1; exact ⟨a, rfl, h2⟩
theorem comp_fltD {K : PySem.W.Frag} {a : Addr} {xs : List V} {α : Type} {g : α → PyData} {as : List α} (r : RepL H (as.map g) xs) (p : α → Bool) (hz : xs.length ≤ 100000) (hl : H a = some (.lst xs))
    (ht : ∀ x c H' (Q' : Bool → Hp → Prop), c ∈ as → Rep H' (g c) x → Same H H' → (∀ H5, Same H' H5 → Q' (p c) H5) → tc (some x :: slots σ js) H' Q')
    (he : ∀ x H' (Q' : VK), Q' x H' → te (some x :: slots σ js) H' Q')
    (hd : ∀ D ys H', H D = none → H' D = some (.lst ys) → Same H H' → RepL H' ((as.filter p).map g) ys → Q (.ref D) H') : CompB (Itl K a) σ js tc te H Q := by
  unfold CompB
  intro D hD
  have hlen : xs.length = as.length := by rw [r.len, List.length_map]
  refine ⟨fun i m ys H' => m = xs.length - i ∧ i ≤ xs.length ∧ H' D = some (.lst ys) ∧ Same H H' ∧ RepL H (((as.take i).filter p).map g) ys ∧ ys.length ≤ i, ⟨xs.length, by simp, Nat.zero_le _, upd_same, Same.upd hD, RepL.nil, Nat.le_refl _⟩, ?_⟩
  rintro i m ys H2 ⟨rfl, hi, hD2, s2, ry, hy⟩
  refine ⟨hD2, ?_⟩
  by_cases hlt : i < xs.length
  · have hx : xs[i]? = some xs[i] := List.getElem?_eq_getElem hlt
    refine .inr ⟨⟨xs, _, SqL.of (s2 _ _ hl), hx⟩, Nat.lt_of_le_of_lt (m := 100000) (by omega) (by decide), fun x H3 hy3 => ?_⟩
    obtain ⟨rfl, hx3⟩ := hy3
    have hx3 := hx3 xs (SqL.of (s2 _ _ hl))
    obtain ⟨c, hc, rc⟩ := r.atI hx3
    have hti : as.take (i + 1) = as.take i ++ [c] := by rw [List.take_add_one, hc]; rfl
    refine ⟨fun b H4 => b = p c ∧ Same H3 H4, ht x c H3 _ (List.mem_of_getElem? hc) (rc.same s2) s2 fun H5 s5 => ⟨rfl, s5⟩, ?_⟩
    rintro b H4 ⟨rfl, s4⟩
    by_cases hp : p c = true
    · rw [if_pos hp]
      refine ⟨fun y H5 => y = x ∧ H5 = H4, he x H4 _ ⟨rfl, rfl⟩, ?_⟩
      rintro y H5 ⟨rfl, rfl⟩
      refine ⟨s4 _ _ hD2, _, ?_, rfl, hlt, upd_same, Same.thru hD (s2.trans s4) SameBut.self, ?_, ?_⟩
      · omega
      · rw [hti, List.filter_append, List.map_append]
        have : List.filter p [c] = [c] := by simp [hp]
        rw [this]
        exact RepL.snoc ry rc
      · rw [List.length_append, List.length_singleton]; omega
    · rw [if_neg hp]
      refine ⟨s4 _ _ hD2, _, ?_, rfl, hlt, s4 _ _ hD2, s2.trans s4, ?_, ?_⟩
      · omega
      · rw [hti, List.filter_append]
        have : List.filter p [c] = [] := by simp [hp]
        rw [this, List.append_nil]
        exact ry
      · omega
  · have e : i = xs.length := by omega
    subst e
    refine .inl ⟨⟨xs, SqL.of (s2 _ _ hl), Nat.le_refl _⟩, hd D ys H2 hD hD2 s2 ?_⟩
    rw [hlen, List.take_length] at ry
    exact ry.same s2
end
end L2
set_option Elab.async false
set_option linter.all false
set_option maxRecDepth 100000
namespace L2
open PySem PySem.Spec PyProof.Rows
theorem we_bmK (K : PySem.W.Frag) {X : Cx} {T id : String} {o e : Expr} {es : List Expr} {to : TE} {t : TA} {name : Str} {apos cpos : Pos} {r : V → List V → Hp → VK → Prop} (pa : PlainAttrs T) (slot : Slot T name id) (hty : typeOf (.builtin id) = pure (.type "method_descriptor")) (hm : MtR X id r) (ho : PEw X o to) (ha : PAw X (e :: es) t) (hK : X.K = K := by rfl)
    (hbase : attributeBase o name X.env (eval o X.env) = eval o X.env := by rfl)
    (hfew : ((backTo cpos (starEach (e :: es) X.env)).all (fun x => !x.1) && (backToKw cpos (keywordEach [] X.env)).all (fun x => x.1.isSome)
      && decide ((e :: es).length + ([] : List Keyword).length + (if ([] : List Keyword).isEmpty then 0 else 1) < 30)) = true := by rfl)
    (hline : (apos.endLine == cpos.line) = true := by rfl) (hs : starEach (e :: es) X.env = (false, eval e X.env) :: starEach es X.env := by first | exact se_Name | exact se_Constant | exact se_BoolOp | exact se_BinOp | exact se_UnaryOp | exact se_IfExp | exact se_Dict | exact se_ListComp | exact se_Compare | exact se_Call | exact se_Attribute | exact se_Subscript | exact se_List | exact se_Tuple | exact se_JoinedStr | exact se_GeneratorExp) (hplain : (backTo cpos (starEach es X.env)).any (·.1) = false := by repeat (first | exact ap_nil | refine ap_cons (by first | exact se_Name | exact se_Constant | exact se_BoolOp | exact se_BinOp | exact se_UnaryOp | exact se_IfExp | exact se_Dict | exact se_ListComp | exact se_Compare | exact se_Call | exact se_Attribute | exact se_Subscript | exact se_List | exact se_Tuple | exact se_JoinedStr | exact se_GeneratorExp) ?_)) :
    PEw X (.Call (.Attribute o name apos) (e :: es) [] cpos) (tBM K T r to t) := by subst hK; exact ⟨pe_bm pa slot hty hm ho.p ha.p hbase hfew hline hs hplain⟩
end L2
set_option Elab.async false
set_option linter.all false
set_option maxRecDepth 100000
namespace L2
open PySem
/-! ### an exception's record, by its traceback: none as yet, or the entry T whose flight mark is fl -/
def ExcAt (h : Heap) (a : Addr) (cls : Value) (od : Option Addr) (st : Option (Addr × Value)) : Prop :=
  ∃ oe vs, h.get? a = some oe ∧ oe.cls = cls ∧ oe.dict = od ∧ oe.data = .fields vs ∧ 1 < vs.size ∧
    match st with
    | none => vs[1]? = some .none
    | some (T, fl) => vs[1]? = some (.ref T) ∧ T ≠ a ∧ ∃ oT ts, h.get? T = some oT ∧ oT.data = .fields ts ∧ 3 < ts.size ∧ ts[3]? = some fl
/-- what is kept: all but ex; of fs all but the slots -/
structure Kp (fs ex : List Addr) (h h' : Heap) : Prop where
  keep : ∀ b o, h.get? b = some o → b ∉ fs → b ∉ ex → h'.get? b = some o
  slot : ∀ b o, h.get? b = some o → b ∈ fs → b ∉ ex → ∃ sl, h'.get? b = some { o with slots := sl }
theorem Kp.any {fs ex : List Addr} {h h' : Heap} (k : Kp fs ex h h') {b : Addr} {o : Obj} (e : h.get? b = some o) (n : b ∉ ex) : ∃ sl, h'.get? b = some { o with slots := sl } := by
  by_cases m : b ∈ fs
  · exact k.slot b o e m n
  · exact ⟨o.slots, k.keep b o e m n⟩
def stT : Option (Addr × Value) → List Addr
  | none => []
  | some (T, _) => [T]
section
variable {M : Model} {A : Around} {E : Value → Shared → Prop} {s : Shared} {env : Env} {outer : List Env} {base : Heap} {L a : Addr} {cls : Value} {od : Option Addr}
/-- the new entry is laid and hung onto the exception -/
theorem entry_ok {oe : Obj} {vs : Array Value} {head : Value} {had : Bool} {Q : Unit → Shared → Prop} (hfr : A.frames = some (env :: outer)) (hl : s.heap.FunFrames base (env :: outer)) (hf : env.frame = some L)
    (he : s.heap.get? a = some oe) (hc : oe.cls = cls) (ho : oe.dict = od) (hd : oe.data = .fields vs) (hz : 1 < vs.size)
    (k : ∀ h' T', ExcAt h' a cls od (some (T', rawInt L)) → s.heap.get? T' = none → Kp ((env :: outer).filterMap (·.frame)) [a] s.heap h' → Q () { s with heap := h' }) :
    wpAny M A (do
      let fo ← frameOf env
      let pl ← entryPlaceOf L had
      let en ← EntryCells.newEntry head fo .none (rawInt L) .none pl
      setField (.ref a) 1 en) Q E s := by
  have na : a ∉ (env :: outer).filterMap (·.frame) := fun m => by
    obtain ⟨_, o, e, nf⟩ := hl.mem m
    rw [he] at e
    cases e
    exact nf vs hd
  refine wpAny_bind (wpAny_frameOf_fun hfr hl hf fun h1 so => ?_)
  refine wpAny_bind (wpAny_entryPlaceOf fun pl ip => ?_)
  unfold EntryCells.newEntry newFields
  refine wpAny_bind (wpAny_newObj_type ?_ (ip.sizeOk5 ..))
  have e1 : h1.get? a = some oe := (so.2.1 a na).trans he
  generalize hT : ({ cls := .type "traceback", dict := none, data := .fields ([head, Value.ref L, Value.none, rawInt L, Value.none] ++ (if pl.isEmpty then List.replicate 6 Value.none else pl)).toArray } : Obj) = oT
  have e2 : (h1.push oT).get? a = some oe := Heap.get?_push_of_some _ e1
  refine wpAny_setField e2 hd hz (k _ h1.objs.size ?_ ?_ ?_)
  · have ne : h1.objs.size ≠ a := Nat.ne_of_gt (Heap.lt_size e1)
    have d3 := Obj.data_mapFields hd (·.setIfInBounds 1 (Value.ref h1.objs.size))
    refine ⟨_, _, Heap.get?_update_self _ e2 (Obj.isFreed_of_fields d3), ?_, ?_, d3, by simpa using hz, by simp [hz], ne, oT, _, ?_, by rw [← hT], ?_, ?_⟩
    · rw [Obj.cls_mapFields]; exact hc
    · rw [← ho]
      obtain ⟨_, _, dt, _⟩ := oe
      cases dt <;> rfl
    · rw [Heap.get?_update_other _ _ (Ne.symm ne)]
      exact Heap.get?_push_size h1 (by rw [← hT]; rfl)
    · simp only [List.size_toArray, List.length_append, List.length_cons, List.length_nil] <;> omega
    · simp
  · cases q : s.heap.get? h1.objs.size with
    | none => rfl
    | some o => exact absurd (Heap.lt_size q) (by rw [so.1]; exact Nat.lt_irrefl _)
  · refine ⟨fun b o e n1 n2 => ?_, fun b o e n1 n2 => ?_⟩
    · have e3 : h1.get? b = some o := (so.2.1 b n1).trans e
      have nb : a ≠ b := fun z => n2 (by rw [z]; exact List.mem_cons_self)
      rw [Heap.get?_update_other _ _ nb]
      exact Heap.get?_push_of_some _ e3
    · obtain ⟨sl, e3⟩ := so.2.2 b o e
      have nb : a ≠ b := fun z => n2 (by rw [z]; exact List.mem_cons_self)
      refine ⟨sl, ?_⟩
      rw [Heap.get?_update_other _ _ nb]
      exact Heap.get?_push_of_some _ e3
/-- the frame is noted at an exception that is new, or that comes from a callee -/
theorem note_ok {st : Option (Addr × Value)} {Q : Unit → Shared → Prop} (hfr : A.frames = some (env :: outer)) (hl : s.heap.FunFrames base (env :: outer)) (hf : env.frame = some L)
    (x : ExcAt s.heap a cls od st) (hst : st = none ∨ ∃ T, st = some (T, .none))
    (k : ∀ h' T', ExcAt h' a cls od (some (T', rawInt L)) → s.heap.get? T' = none → Kp ((env :: outer).filterMap (·.frame)) (a :: stT st) s.heap h' → Q () { s with heap := h' }) :
    wpAny M A (noteFrame (.ref a) env) Q E s := by
  obtain ⟨oe, vs, he, hc, ho, hd, hz, x⟩ := x
  unfold noteFrame
  simp only [hf]
  rcases hst with rfl | ⟨T, rfl⟩
  · refine wpAny_bind (wpAny_field he hd x ?_)
    rw [if_neg (by decide)]
    exact entry_ok hfr hl hf he hc ho hd hz k
  · obtain ⟨x1, nT, oT, ts, hT, dT, zT, x3⟩ := x
    refine wpAny_bind (wpAny_field he hd x1 ?_)
    rw [if_pos (by simp)]
    refine wpAny_bind (wpAny_field hT dT x3 ?_)
    rw [if_neg (by simp [rawInt])]
    refine wpAny_bind (wpAny_setField hT dT zT ?_)
    have other : ∀ b, b ≠ T → (s.heap.update T (Obj.mapFields (·.setIfInBounds 3 Value.none))).get? b = s.heap.get? b := fun b hb => Heap.get?_update_other _ _ (Ne.symm hb)
    have nrec : ∀ b o, s.heap.get? b = some o → (∀ ws, o.data ≠ .fields ws) → b ≠ T := fun b o e nf z => by
      subst z; rw [hT] at e; cases e; exact nf ts dT
    refine entry_ok (hfr := hfr) (hl := hl.of_keeps fun b o e nf => ⟨o, (other b (nrec b o e nf)).trans e, rfl⟩) hf ((other a (Ne.symm nT)).trans he) hc ho hd hz fun h' T' y1 y2 y3 => k h' T' y1 ?_ ?_
    · by_cases z : T' = T
      · subst z
        have := Heap.get?_update_self (Obj.mapFields (·.setIfInBounds 3 Value.none)) hT (Obj.isFreed_of_fields (Obj.data_mapFields dT _))
        rw [this] at y2; cases y2
      · rw [← other T' z]; exact y2
    · refine ⟨fun b o e n1 n2 => y3.keep b o ((other b fun z => n2 (by rw [z]; simp [stT])).trans e) n1 fun z => n2 (List.mem_cons.mpr (.inl (List.mem_singleton.mp z))), fun b o e n1 n2 => y3.slot b o ((other b fun z => n2 (by rw [z]; simp [stT])).trans e) n1 fun z => n2 (List.mem_cons.mpr (.inl (List.mem_singleton.mp z)))⟩
/-- the flight mark is taken off -/
theorem land_ok {T : Addr} {fl : Value} {Q : Unit → Shared → Prop} (x : ExcAt s.heap a cls od (some (T, fl)))
    (k : ∀ h', ExcAt h' a cls od (some (T, .none)) → (∀ b o, b ≠ T → s.heap.get? b = some o → h'.get? b = some o) → Q () { s with heap := h' }) : wpAny M A (setFlight (.ref a) none) Q E s := by
  obtain ⟨oe, vs, he, hc, ho, hd, hz, x1, nT, oT, ts, hT, dT, zT, x3⟩ := x
  unfold setFlight
  refine wpAny_bind (wpAny_field he hd x1 ?_)
  rw [if_pos (by simp)]
  refine wpAny_setField hT dT zT (k _ ?_ fun b o hb e => ?_)
  · have d2 := Obj.data_mapFields dT (·.setIfInBounds 3 Value.none)
    exact ⟨oe, vs, by rw [Heap.get?_update_other _ _ nT]; exact he, hc, ho, hd, hz, x1, nT, _, _, Heap.get?_update_self _ hT (Obj.isFreed_of_fields d2), d2, by simpa using zT, by simp [zT]⟩
  · rw [Heap.get?_update_other _ _ (Ne.symm hb)]; exact e
/-- an exception leaves the frame -/
theorem leave_ok {st : Option (Addr × Value)} {Q : Unit → Shared → Prop} (hfr : A.frames = some (env :: outer)) (hl : s.heap.FunFrames base (env :: outer)) (hf : env.frame = some L)
    (x : ExcAt s.heap a cls od st) (hst : st = none ∨ ∃ T, st = some (T, .none))
    (k : ∀ h' T', ExcAt h' a cls od (some (T', .none)) → s.heap.get? T' = none → Kp ((env :: outer).filterMap (·.frame)) (a :: stT st) s.heap h' → Q () { s with heap := h' }) :
    wpAny M A (leaving env (.ref a)) Q E s := by
  unfold leaving
  refine wpAny_bind (note_ok hfr hl hf x hst fun h1 T1 y1 y2 y3 => ?_)
  refine land_ok y1 fun h2 z1 z2 => ?_
  refine k h2 T1 z1 y2 ⟨fun b o e n1 n2 => z2 b o (fun q => ?_) (y3.keep b o e n1 n2), fun b o e n1 n2 => ?_⟩
  · subst q; rw [y2] at e; cases e
  · obtain ⟨sl, e1⟩ := y3.slot b o e n1 n2
    exact ⟨sl, z2 b _ (fun q => by subst q; rw [y2] at e; cases e) e1⟩
end
end L2
set_option Elab.async false
set_option linter.all false
set_option maxRecDepth 100000
namespace L2
open PySem PySem.W PySem.Spec PySem.Calls PyProof.Rows
/-- what of a class of exceptions is read off the text: its attributes go the plain way -/
structure ExcCls (K : Frag) (C : Addr) : Prop where
  ga : findIn K (.ref C) "__getattribute__" = some (some (.builtin "BaseException.__getattribute__"))
  gt : findIn K (.ref C) "__getattr__" = some none
  sub : subIn K (.ref C) (.type "BaseException") = some true
  cls : (clsIn K C).isSome = true
  kc : findIn K (.ref C) "__class__" = some (some (.builtin "object.__class__"))
  kg : specialIn K (.builtin "object.__class__") "__get__" = some (some (.builtin "getset_descriptor.__get__"))
  kt : takesIn K (.builtin "object.__class__") = some true
  ob : mroIn K C (.type "object") = some true
section
variable {prog : Program} {w : World} {A : Around} {E : Value → Shared → Prop} {s : Shared} {K : Frag} {x C : Addr} {ox : Obj} {od : Option Obj} {name : Str}
end
end L2
set_option Elab.async false
set_option linter.all false
set_option maxRecDepth 100000
namespace L2
open PySem PySem.Spec PyProof.Rows
/-! ### what stays while an exception flies -/
section
variable {P : Program} {w : World} {H H1 H2 : Hp} {h h1 h2 base : Heap} {fs fs2 ex : List Addr} {a : Addr} {o : HO}
theorem ObjOk.get (x : ObjOk P w H h a o) : ∃ ob, h.get? a = some ob := by
  cases o with
  | lst xs => obtain ⟨_, _, _, _, e⟩ := x; exact ⟨_, e⟩
  | tup xs => obtain ⟨_, _, _, o, e, _⟩ := x; exact ⟨_, e⟩
  | dK kvs => obtain ⟨_, _, _, _, o, _, _, e, _⟩ := x; exact ⟨_, e⟩
  | dT kvs => obtain ⟨_, _, _, _, o, _, _, e, _⟩ := x; exact ⟨_, e⟩
  | set S n => obtain ⟨o, _, _, _, e, _⟩ := x; exact ⟨_, e⟩
  | ins C dx fs => obtain ⟨_, _, _, e, _⟩ := x; exact ⟨_, e⟩
  | own y => obtain ⟨_, e⟩ := x; exact ⟨_, e⟩
  | xd fs => obtain ⟨_, ⟨_, _, _, e, _⟩, _⟩ := x; exact ⟨_, e⟩
  | rng lo hi => obtain ⟨_, _, _, e⟩ := x; exact ⟨_, e⟩
  | frz ob u => obtain ⟨e, _⟩ := x; exact ⟨_, e⟩
  | tbl ps => exact ⟨_, (show h.get? a = some _ from x)⟩
  | met f y => exact ⟨_, (show h.get? a = some _ from x)⟩
  | ext φ => obtain ⟨_, e, _⟩ := x; exact e
theorem HOk.kp (x : HOk P w H h) (k : Kp fs ex h h1) (hf : ∀ b ∈ fs, H b = none) (he : ∀ b ∈ ex, H b = none) : HOk P w H h1 := fun a o e =>
  (x a o e).stay (fun b u hb q => by
    have nb : H b ≠ none := by
      rcases hb with rfl | hb
      · rw [e]; simp
      · rw [hb]; simp
    exact k.keep b u q (fun z => nb (hf b z)) fun z => nb (he b z)) (fun _ q => q) fun _ _ q => q
theorem Un.tr (u : Un fs [] H H1 h h1) (v : Un fs2 [] H1 H2 h1 h2) (hf : ∀ b ∈ fs2, b ∈ fs ∨ h.get? b = none) : Un fs [] H H2 h h2 where
  keep := fun b o e n m _ => v.keep b o (u.keep b o e n m (by simp)) (u.free b o e n (by simp)) (fun z => (hf b z).elim m fun q => by rw [e] at q; cases q) (by simp)
  slot := fun b o e n m _ => by
    obtain ⟨s1, e1⟩ := u.slot b o e n m (by simp)
    obtain ⟨s2, e2⟩ := v.any e1 (u.free b o e n (by simp)) (by simp)
    exact ⟨s2, e2⟩
  free := fun b o e n _ => by
    obtain ⟨o1, e1⟩ := u.there b o e (by simp)
    exact v.free b o1 e1 (u.free b o e n (by simp)) (by simp)
  there := fun b o e _ => by
    obtain ⟨o1, e1⟩ := u.there b o e (by simp)
    exact v.there b o1 e1 (by simp)
  tups := fun b xs e => v.tups b xs (u.tups b xs e)
  frzs := fun b ob xs e => v.frzs b ob xs (u.frzs b ob xs e)
  tbls := fun b ps e => by
    obtain ⟨m1, e1⟩ := u.tbls b ps e
    obtain ⟨m2, e2⟩ := v.tbls b _ e1
    exact ⟨m1 ++ m2, by rw [e2, Array.append_assoc]⟩
theorem Un.kp (u : Un fs [] H H1 h h1) (k : Kp fs2 ex h1 h2) (hf : ∀ b ∈ fs2, b ∈ fs ∨ h.get? b = none) (he : ∀ b ∈ ex, h.get? b = none) : Un fs [] H H1 h h2 where
  keep := fun b o e n m _ => k.keep b o (u.keep b o e n m (by simp)) (fun z => (hf b z).elim m fun q => by rw [e] at q; cases q) fun z => by rw [he b z] at e; cases e
  slot := fun b o e n m _ => by
    obtain ⟨s1, e1⟩ := u.slot b o e n m (by simp)
    obtain ⟨s2, e2⟩ := k.any e1 fun z => by rw [he b z] at e; cases e
    exact ⟨s2, e2⟩
  free := u.free
  there := fun b o e _ => by
    obtain ⟨o1, e1⟩ := u.there b o e (by simp)
    obtain ⟨s2, e2⟩ := k.any e1 fun z => by rw [he b z] at e; cases e
    exact ⟨_, e2⟩
  tups := u.tups
  frzs := u.frzs
  tbls := u.tbls
theorem funFrames_kp : ∀ {l : List Env}, (∀ b ∈ frs l, ∀ o, h.get? b = some o → ∃ sl, h1.get? b = some { o with slots := sl }) → h.FunFrames base l → h1.FunFrames base l
  | [], _, _ => trivial
  | env :: r, k, ⟨hk, ⟨L, o, hf, hn, ho, hd⟩, hr⟩ => by
    have hL : L ∈ frs (env :: r) := List.mem_filterMap.mpr ⟨env, List.mem_cons_self, hf⟩
    obtain ⟨sl, e⟩ := k L hL o ho
    refine ⟨hk, ⟨L, _, hf, hn, e, hd⟩, funFrames_kp (fun b hb => k b ?_) hr⟩
    obtain ⟨e', m, q⟩ := List.mem_filterMap.mp hb
    exact List.mem_filterMap.mpr ⟨e', List.mem_cons_of_mem _ m, q⟩
end
/-- how an exception lies behind a call -/
def CX1 (P : Program) (w : World) : CXT := fun outer H s E e s' => ∃ (a T : Addr) (cls : Value) (od : Option Addr) (H' : Hp), e = .ref a ∧ s'.os = s.os ∧ AllBare s'.gens ∧ Un (frs outer) [] H H' s.heap s'.heap ∧ HOk P w H' s'.heap ∧
  s.heap.get? a = none ∧ s.heap.get? T = none ∧ H' a = none ∧ H' T = none ∧ ExcAt s'.heap a cls od (some (T, .none)) ∧ E cls od H'
structure XPass (X : Cx) (Ex : St → XK) : Prop where
  p : ∀ (pins : List (Addr × Obj)) (σ : St) (H : Hp) (s : Shared) (e : Value) (s' : Shared), Inv X pins σ H s → CX1 X.prog X.w X.stack H s (Ex σ) e s' → X.xe e s'
structure XMade (X : Cx) (Ex : St → XK) : Prop where
  p : ∀ (pins : List (Addr × Obj)) (σ : St) (H : Hp) (s : Shared) (h' : Heap) (tk : Nat) (a : Addr) (cls : Value) (od : Option Addr), Inv X pins σ H s → (∀ b o, s.heap.get? b = some o → h'.get? b = some o) → s.heap.get? a = none → H a = none →
    ExcAt h' a cls od none → Ex σ cls od H → X.xe (.ref a) { s with heap := h', toks := tk }
section
variable {P : Program} {w : World} {K : PySem.W.Frag} {mg : Str → Option Value} {base : Heap} {N : List Str} {qual : Str} {scope : Scope} {f : Addr} {cd : Value} {A : Around} {outer : List Env} {s : Shared} {H : Hp} {E : XK}
/-- an exception leaves a def's body -/
theorem leave_fn {pins : List (Addr × Obj)} {σ : St} {H1 H2 : Hp} {s1 s2 : Shared} {a : Addr} {cls : Value} {od : Option Addr} {st : Option (Addr × Value)}
    (I : Inv (cxOf (CX1 P w) P w K mg base N qual scope f cd A outer s H E) pins σ H1 s1) (os : s2.os = s1.os) (bare : AllBare s2.gens)
    (un : Un (frs (cxOf (CX1 P w) P w K mg base N qual scope f cd A outer s H E).stack) [] H1 H2 s1.heap s2.heap) (hok : HOk P w H2 s2.heap) (x : ExcAt s2.heap a cls od st) (hst : st = none ∨ ∃ T, st = some (T, .none))
    (fa : s1.heap.get? a = none) (na : H2 a = none) (fT : ∀ T ∈ stT st, s1.heap.get? T = none) (nT : ∀ T ∈ stT st, H2 T = none) (q : E cls od H2) :
    (cxOf (CX1 P w) P w K mg base N qual scope f cd A outer s H E).xe (.ref a) s2 := by
  have hff : s2.heap.FunFrames (cxOf (CX1 P w) P w K mg base N qual scope f cd A outer s H E).base (cxOf (CX1 P w) P w K mg base N qual scope f cd A outer s H E).stack :=
    funFrames_kp (fun b hb o e => un.any e (I.stkFree b hb) (by simp)) I.stack
  have old : ∀ b, s1.heap.get? b = none → s.heap.get? b = none := fun b e => by
    cases q : s.heap.get? b with
    | none => rfl
    | some o =>
      obtain ⟨o', e'⟩ := I.base.there b o q (by intro z; cases z)
      rw [e] at e'; cases e'
  have old2 : ∀ b, s2.heap.get? b = none → s1.heap.get? b = none := fun b e => by
    cases q : s1.heap.get? b with
    | none => rfl
    | some o =>
      obtain ⟨o', e'⟩ := un.there b o q (by simp)
      rw [e] at e'; cases e'
  have hfs : ∀ b ∈ frs (cxOf (CX1 P w) P w K mg base N qual scope f cd A outer s H E).stack, b ∈ frs outer ∨ s.heap.get? b = none := fun b hb => by
    have hb' : b ∈ s.heap.objs.size :: frs outer := hb
    rcases List.mem_cons.mp hb' with z | z
    · right
      rw [z]
      exact Heap.get?_none_of_le (Nat.le_refl _)
    · exact .inl z
  show wpAny (model P w) (A.deeper (envOfC qual scope s.heap.objs.size f cd)) (leaving (envOfC qual scope s.heap.objs.size f cd) (.ref a)) _ _ s2
  refine leave_ok I.ok.frames hff rfl x hst fun h3 T3 y1 y2 y3 => ?_
  have hfree : ∀ b ∈ frs (cxOf (CX1 P w) P w K mg base N qual scope f cd A outer s H E).stack, H2 b = none := fun b hb => by
    have ff := I.stack
    obtain ⟨_, o, ho, _⟩ := ff.mem hb
    exact un.free b o ho (I.stkFree b hb) (by simp)
  have hex : ∀ b ∈ a :: stT st, s1.heap.get? b = none := fun b hb => by
    rcases List.mem_cons.mp hb with rfl | hb
    · exact fa
    · exact fT b hb
  refine ⟨a, T3, cls, od, H2, rfl, os.trans I.os, bare, ((I.base.tr un hfs).kp y3 hfs fun b hb => old b (hex b hb)), hok.kp y3 hfree (fun b hb => ?_), old a fa, old T3 (old2 T3 y2), na, ?_, y1, q⟩
  · rcases List.mem_cons.mp hb with rfl | hb
    · exact na
    · exact nT b hb
  · cases z : H2 T3 with
    | none => rfl
    | some u =>
      obtain ⟨ob, e⟩ := (hok T3 u z).get
      rw [y2] at e; cases e
theorem xpass_fn : XPass (cxOf (CX1 P w) P w K mg base N qual scope f cd A outer s H E) (fun _ => E) := ⟨fun pins σ H1 s1 e s2 I hc => by
  obtain ⟨a, T, cls, od, H2, rfl, os, bare, un, hok, fa, fT, na, nT, x, q⟩ := hc
  exact leave_fn I os bare un hok x (.inr ⟨T, rfl⟩) fa na (fun b hb => by cases List.mem_singleton.mp hb; exact fT) (fun b hb => by cases List.mem_singleton.mp hb; exact nT) q⟩
theorem xmade_fn : XMade (cxOf (CX1 P w) P w K mg base N qual scope f cd A outer s H E) (fun _ => E) := ⟨fun pins σ H1 s1 h' tk a cls od I k fa na x q =>
  leave_fn (s2 := { s1 with heap := h', toks := tk }) I rfl I.bare (Un.kept k) (I.hok.kept k) x (.inl rfl) fa na (fun b hb => by cases hb) (fun b hb => by cases hb) q⟩
end
/-! ### calls of defs that may raise -/
def tCallX (sp : Sp) (Ex : St → XK) (t : TA) : TE := fun σ H Q => t σ H fun vs H1 => sp vs H1 Q (Ex σ)
section
variable {X : Cx} {k : Nat} {f C : Addr} {fd : FuncData} {ps : List Str} {sp : Sp} {Ex : St → XK} {x : Str} {p pos np cpos : Pos} {e : Expr} {es : List Expr} {t : TA}
theorem run_fnX {pins : List (Addr × Obj)} {σ : St} {H : Hp} {s : Shared} {Q : VK} {us : List Value} {vs : List V} (F : FnOk X.prog X.w X.K X.mg X.base (CX1 X.prog X.w) k f fd ps sp) (hr : Room k X.A) (hb : Binds X.K fd ps []) (hx : XPass X Ex)
    (I : Inv X pins σ H s) (r : Vals vs us) (h : sp vs H Q (Ex σ)) : wpAny (model X.prog X.w) X.A (call (.ref f) us) (EP X pins σ Q) X.xe s := by
  have hl : (us ++ []).length = ps.length := by rw [List.append_nil, ← r.length]; exact F.len _ _ _ _ h
  have hbt := hb s us I.kIn hl
  rw [List.append_nil] at hbt
  refine wpAny_call (codeAny_mono (F.run X.A X.stack s H ⟨us, []⟩ us vs Q (Ex σ) hr I.env0 hbt r h) fun r s' hq => ?_)
  cases r with
  | error e => exact hx.p pins σ H s e s' I hq
  | ok fl =>
    cases fl with
    | ret u => exact I.after hq
    | next => exact False.elim hq
    | brk => exact False.elim hq
    | cont => exact False.elim hq
theorem we_fnX (F : FnC (CX1 X.prog X.w) X.prog X.w X.K X.mg X.base k x ps sp) (hr : Room k X.A) (hx : XPass X Ex) (ha : PAw X (e :: es) t) (hg : Gl X x := by rfl)
    (hdb : (x == ("__debug__" : Str)) = false := by decide) (he : starEach (e :: es) X.env = (false, eval e X.env) :: starEach es X.env := by first | exact se_Name | exact se_Constant | exact se_BoolOp | exact se_BinOp | exact se_UnaryOp | exact se_IfExp | exact se_Dict | exact se_ListComp | exact se_Compare | exact se_Call | exact se_Attribute | exact se_Subscript | exact se_List | exact se_Tuple | exact se_JoinedStr | exact se_GeneratorExp)
    (hpl : (backTo pos (starEach es X.env)).any (·.1) = false := by repeat (first | exact ap_nil | refine ap_cons (by first | exact se_Name | exact se_Constant | exact se_BoolOp | exact se_BinOp | exact se_UnaryOp | exact se_IfExp | exact se_Dict | exact se_ListComp | exact se_Compare | exact se_Call | exact se_Attribute | exact se_Subscript | exact se_List | exact se_Tuple | exact se_JoinedStr | exact se_GeneratorExp) ?_)) :
    PEw X (.Call (.Name x p) (e :: es) [] pos) (tCallX sp Ex t) := ⟨by
  obtain ⟨f, fd, h1, h2, h3, h4⟩ := F.ex
  intro pins s σ H Q I h
  refine wpAny_Call_Name_kw (ld_glob I hg h2 ?_ hdb)
  refine PySem.W.callWith_K (h₀ := X.base) I.ok.mod.kin h3 (thn (ha.p pos pins s σ H _ I h) fun us s1 ⟨vs, H1, I1, r, q⟩ => ⟨I1.kIn, ?_⟩) he hpl
  exact run_fnX h1 hr h4 hx I1 r q⟩
end
/-- THE RULE for a def that may raise -/
theorem Fun.okx {P : Program} {w : World} {K : PySem.W.Frag} {mg : Str → Option Value} {base : Heap} {x qual : Str} {st : Stmt} {f : Addr} {fd : FuncData} {N ps : List Str} {k : Nat} {sp : Sp} (F : Fun K x qual st f fd) (S : FnScope N ps (defScope st)) (len : ∀ vs H Q E, sp vs H Q E → vs.length = ps.length)
    (hbody : ∀ (cdv : Value) (A : Around) (outer : List Env) (s : Shared) (H : Hp) (vs : List V) (Q : VK) (E : XK), Room k (A.deeper (envOfC qual (defScope st) s.heap.objs.size f cdv)) → sp vs H Q E →
      XPass (cxOf (CX1 P w) P w K mg base N qual (defScope st) f cdv A outer s H E) (fun _ => E) → XMade (cxOf (CX1 P w) P w K mg base N qual (defScope st) f cdv A outer s H E) (fun _ => E) →
      ∃ t, PSsw (cxOf (CX1 P w) P w K mg base N qual (defScope st) f cdv A outer s H E) (defBody st) t ∧ t { nx := fun _ H' => Q .non H', rt := Q } (start N vs) H) : FnOk P w K mg base (CX1 P w) (k + 1) f fd ps sp := by
  obtain ⟨oc, od, kV, doc, pm, an, cdv, ct, osl, rfl, lk, hcd⟩ := F.ex
  refine fn_of lk hcd S len fun A outer s H vs Q E hr hsp => ?_
  obtain ⟨t, h, q⟩ := hbody cdv A outer s H vs Q E hr hsp xpass_fn xmade_fn
  exact ⟨t, h.p, q⟩
/-! ### raise C(..) of an own class that has no __init__ -/
theorem exc_obj {K : PySem.W.Frag} {h : Heap} {C : Addr} {bmB : List Value} {newId : String} (X : K.In h) (q : PySem.W.excIn K C bmB newId = true) :
    ∃ bm N nm qn bs hdct sn sub ab col dd k0 k1 k2 k3 k5 mN, h.get? C = some (excClassObj nm qn C N bs bm hdct sn sub ab col dd k0 k1 k2 k3 k5 newId) ∧ h.Ns N mN ∧ mN "__init__" = none ∧ OwnTail h bmB bm := by
  unfold PySem.W.excIn at q
  cases e : K.lookup C with
  | none => rw [e] at q; cases q
  | some o =>
    rw [e] at q
    obtain ⟨oc, dd, dt, sl⟩ := o
    split at q
    · rename_i _ dd' cd sl' ho
      cases ho
      split at q
      · rename_i C' bm k0 k1 k2 k3 n k5 hm hs
        rw [Bool.and_eq_true, Bool.and_eq_true, Bool.and_eq_true, Bool.and_eq_true, Bool.and_eq_true] at q
        obtain ⟨⟨⟨⟨⟨q1, q2⟩, q3⟩, q4⟩, q5⟩, q6⟩ := q
        have q1 : C' = C := by simpa using q1
        have q2 : n = newId := by simpa using q2
        have q3 : cd.hasDel = false := by simpa using q3
        have q6 : PySem.W.nsIn K cd.ns "__init__" = some none := by simpa using q6
        subst q1 q2
        obtain ⟨nm, bs, mro, ns, qn, hd, sn, sub, ab, col, del⟩ := cd
        cases hm
        cases q3
        obtain ⟨l⟩ := sl
        cases hs
        exact ⟨bm, ns, nm, qn, bs, hd, sn, sub, ab, col, dd, k0, k1, k2, k3, k5, _, X _ _ e, .of_isNs (PySem.W.isNs_of_in X q5), PySem.W.nsMap_none_of_in X q5 q6, PySem.W.tail_of_in X q4⟩
      · cases q
    · cases q
theorem MadeExcOf.at {h h' : Heap} {a : Addr} {cls : Value} {args : List Value} (x : Heap.MadeExcOf h h' a cls args) : ExcAt h' a cls none none := by
  obtain ⟨t, e, _, _⟩ := x.there
  exact ⟨_, _, e, rfl, rfl, rfl, by show 1 < 6; decide, rfl⟩
def tRaise (cls : Value) (Ex : St → XK) (t : TA) : TS := fun _ σ H => t σ H fun vs H1 => vs.length ≤ 64 ∧ Ex σ cls none H1
abbrev mroVE : List Value := [.type "ValueError", .type "Exception", .type "BaseException", .type "object"]
section
variable {X : Cx} {C : Addr} {Ex : St → XK} {x : Str} {pos np cpos : Pos} {e : Expr} {es : List Expr} {t : TA}
theorem ws_raise (q : PySem.W.excIn X.K C mroVE "ValueError.__new__" = true) (hm : X.mg x = some (.ref C)) (hc : X.calm = true) (hx : XMade X Ex) (ha : PAw X (e :: es) t) (hg : Gl X x := by rfl)
    (hdb : (x == ("__debug__" : Str)) = false := by decide) (he : starEach (e :: es) X.env = (false, eval e X.env) :: starEach es X.env := by first | exact se_Name | exact se_Constant | exact se_BoolOp | exact se_BinOp | exact se_UnaryOp | exact se_IfExp | exact se_Dict | exact se_ListComp | exact se_Compare | exact se_Call | exact se_Attribute | exact se_Subscript | exact se_List | exact se_Tuple | exact se_JoinedStr | exact se_GeneratorExp)
    (hpl : (backTo cpos (starEach es X.env)).any (·.1) = false := by repeat (first | exact ap_nil | refine ap_cons (by first | exact se_Name | exact se_Constant | exact se_BoolOp | exact se_BinOp | exact se_UnaryOp | exact se_IfExp | exact se_Dict | exact se_ListComp | exact se_Compare | exact se_Call | exact se_Attribute | exact se_Subscript | exact se_List | exact se_Tuple | exact se_JoinedStr | exact se_GeneratorExp) ?_)) :
    PSw X (.Raise (some (.Call (.Name x np) (e :: es) [] cpos)) none pos) (tRaise (.ref C) Ex t) := ⟨by
  intro pins s σ H D I h
  obtain ⟨bm, N, nm, qn, bs, hdct, sn, sub, ab, col, dd, k0, k1, k2, k3, k5, mN, hC, hN, hni, TL⟩ := exc_obj I.ok.mod.kin q
  have FB := PySem.F.excBase_ValueError
  refine wpAny_Raise_call_subT (C := C) (nm := nm) (q := qn) (N := N) (bs := bs) (bm := bm) (hdct := hdct) (sn := sn) (sub := sub) (ab := ab) (col := col) (dd := dd) (k0 := k0) (k1 := k1) (k2 := k2) (k3 := k3) (k5 := k5) FB (mN := mN)
    (TL.hasType FB.hasBase) (I.ok.hd hc) ?_ hni (ld_glob I hg hm ⟨rfl, ?_⟩ hdb)
  · rw [he]
    show (false || (backTo cpos (starEach es X.env)).any (·.1)) = false
    rw [hpl]; rfl
  · have hA := ha.p cpos pins s σ H _ I h
    rw [he] at hA ⊢
    refine Calls.evalArgs_plain (thn hA fun us s1 ⟨vs, H1, I1, r, hz, q⟩ => ⟨rfl, ?_, I1.bk _ _ hC, hN.keeps I1.bk, TL.keeps I1.bk, fun h' a x => ?_⟩)
    · rw [← r.length]; exact small64 hz
    · have fresh := x.new
      have na : H1 a = none := by
        cases z : H1 a with
        | none => rfl
        | some u => obtain ⟨ob, e⟩ := (I1.hok a u z).get; rw [fresh] at e; cases e
      exact hx.p pins σ H1 s1 h' s1.toks a _ none I1 x.keeps fresh na (MadeExcOf.at x) q⟩
end
end L2
set_option Elab.async false
set_option linter.all false
set_option maxRecDepth 100000
namespace L2
open PySem PySem.Spec PyProof.Rows
section
variable {X : Cx} {pins : List (Addr × Obj)} {σ : St} {H : Hp} {s : Shared}
end
section
variable {M : Model} {A : Around} {E : Value → Shared → Prop} {K : PySem.W.Frag} {s : Shared} {a C C2 : Addr} {ox : Obj} {od : Option Obj}
end
end L2
set_option Elab.async false
set_option linter.all false
set_option maxRecDepth 100000
namespace L2
open PySem PySem.Spec PyProof.Rows
section
variable {X : Cx} {x n : Str} {np hpos pos : Pos} {b₀ : Stmt} {body suite : List Stmt} {i : Nat} {C2 : Addr} {tb : (St → XK) → TS} {th : TS}
end
end L2
set_option Elab.async false
set_option linter.all false
set_option maxRecDepth 100000
namespace L2
open PySem PySem.Spec PyProof.Rows
theorem xpass0 {X : Cx} : XPass X (fun _ => E0) := ⟨fun _ _ _ _ _ _ _ hc => by
  obtain ⟨_, _, _, _, _, _, _, _, _, _, _, _, _, _, _, q⟩ := hc
  exact q.elim⟩
end L2
set_option linter.all false
/-! fractions: the mathematics -/
namespace Mf
/-- n / d brought down -/
def lw (n d : Int) : Int × Int := (n / (Int.gcd n d : Int), d / (Int.gcd n d : Int))
structure Low (n d : Int) : Prop where
  pos : 0 < d
  low : Int.gcd n d = 1
theorem gcd_pos {n d : Int} (h : 0 < d) : 0 < (Int.gcd n d : Int) := by
  have := Int.gcd_pos_of_ne_zero_right n (Int.ne_of_gt h)
  omega
theorem lw_low {n d : Int} (h : 0 < d) : Low (lw n d).1 (lw n d).2 := by
  have g := gcd_pos (n := n) h
  refine ⟨?_, ?_⟩
  · exact Int.ediv_pos_of_pos_of_dvd h (Int.le_of_lt g) (Int.gcd_dvd_right n d)
  · exact Int.gcd_ediv_gcd_ediv_gcd (by omega)
theorem lw_eq {n d : Int} : (lw n d).1 * (Int.gcd n d : Int) = n ∧ (lw n d).2 * (Int.gcd n d : Int) = d :=
  ⟨Int.ediv_mul_cancel (Int.gcd_dvd_left n d), Int.ediv_mul_cancel (Int.gcd_dvd_right n d)⟩
theorem lw_cross {n d : Int} : (lw n d).1 * d = n * (lw n d).2 := by
  obtain ⟨e1, e2⟩ := lw_eq (n := n) (d := d)
  generalize (lw n d).1 = a at *
  generalize (lw n d).2 = b at *
  generalize (Int.gcd n d : Int) = g at *
  rw [← e1, ← e2]
  rw [Int.mul_assoc, Int.mul_comm g b]
theorem dvd_cop {b a d : Int} (h : b ∣ a * d) (g : Int.gcd b a = 1) : b ∣ d := by
  rw [← Int.natAbs_dvd_natAbs, Int.natAbs_mul] at h
  rw [← Int.natAbs_dvd_natAbs]
  rw [Int.gcd_eq_natAbs_gcd_natAbs] at g
  exact Nat.Coprime.dvd_of_dvd_mul_left g h
/-- two lowest ones that are worth the same are the same -/
theorem low_uniq {a b c d : Int} (h1 : Low a b) (h2 : Low c d) (e : a * d = c * b) : a = c ∧ b = d := by
  have d1 : b ∣ d := by
    have : b ∣ a * d := by rw [e]; exact Int.dvd_mul_left c b
    exact dvd_cop this (by rw [Int.gcd_comm]; exact h1.low)
  have d2 : d ∣ b := by
    have : d ∣ c * b := by rw [← e]; exact Int.dvd_mul_left a d
    exact dvd_cop this (by rw [Int.gcd_comm]; exact h2.low)
  have hb := h1.pos
  have hd := h2.pos
  have e1 : b = d := Int.dvd_antisymm (Int.le_of_lt hb) (Int.le_of_lt hd) d1 d2
  subst e1
  exact ⟨Int.eq_of_mul_eq_mul_right (by omega) e, rfl⟩
theorem low_lw {a b n d : Int} (h : Low a b) (hd : 0 < d) (e : a * d = n * b) : lw n d = (a, b) := by
  have c := lw_cross (n := n) (d := d)
  have q := low_uniq (lw_low (n := n) hd) h (by
    -- (lw).1 * b = a * (lw).2
    have hd' : d ≠ 0 := by omega
    apply Int.eq_of_mul_eq_mul_right hd'
    calc (lw n d).1 * b * d = ((lw n d).1 * d) * b := by rw [Int.mul_assoc, Int.mul_comm b d, ← Int.mul_assoc]
      _ = (n * (lw n d).2) * b := by rw [c]
      _ = (n * b) * (lw n d).2 := by rw [Int.mul_assoc, Int.mul_comm (lw n d).2 b, ← Int.mul_assoc]
      _ = (a * d) * (lw n d).2 := by rw [e]
      _ = a * (lw n d).2 * d := by rw [Int.mul_assoc, Int.mul_comm d, ← Int.mul_assoc])
  exact Prod.ext q.1 q.2
theorem lw_self {a b : Int} (h : Low a b) : lw a b = (a, b) := low_lw h h.pos rfl
/-! ### coprime -/
theorem cop_mul {u a b : Int} (h1 : Int.gcd u a = 1) (h2 : Int.gcd u b = 1) : Int.gcd u (a * b) = 1 := by
  rw [Int.gcd_eq_natAbs_gcd_natAbs] at *
  rw [Int.natAbs_mul]
  exact Nat.Coprime.mul_right h1 h2
theorem cop_of_dvd {a b c : Int} (h : Int.gcd a b = 1) (d : c ∣ b) : Int.gcd a c = 1 := by
  have := Int.gcd_dvd_gcd_of_dvd_right a d
  rw [h] at this
  exact Nat.eq_one_of_dvd_one this
theorem cop_of_dvd_left {a b c : Int} (h : Int.gcd a b = 1) (d : c ∣ a) : Int.gcd c b = 1 := by
  rw [Int.gcd_comm] at *; exact cop_of_dvd h d
/-! ### the program's ways -/
/-- plus: the upper number before it is brought down, and the rest -/
theorem plus_eq {a b c d : Int} (h1 : Low a b) (h2 : Low c d) :
    let g : Int := Int.gcd b d
    let u := a * (d / g) + c * (b / g)
    let l : Int := Int.gcd u g
    lw (a * d + c * b) (b * d) = (u / l, (b / g) * (d / l)) := by
  intro g u l
  have hg : 0 < g := gcd_pos h2.pos
  have hl : 0 < l := gcd_pos hg
  obtain ⟨b', eb⟩ := Int.gcd_dvd_left b d
  obtain ⟨d', ed⟩ := Int.gcd_dvd_right b d
  have eb : b = g * b' := eb
  have ed : d = g * d' := ed
  have qb : b / g = b' := by rw [eb]; exact Int.mul_ediv_cancel_left _ (by omega)
  have qd : d / g = d' := by rw [ed]; exact Int.mul_ediv_cancel_left _ (by omega)
  have eu : u = a * d' + c * b' := by show a * (d / g) + c * (b / g) = _; rw [qb, qd]
  have cbd : Int.gcd b' d' = 1 := by
    have := Int.gcd_ediv_gcd_ediv_gcd (i := b) (j := d) (by have : 0 < (Int.gcd b d : Int) := hg; omega)
    have h : Int.gcd (b / g) (d / g) = 1 := this
    rwa [qb, qd] at h
  have cab : Int.gcd a b' = 1 := cop_of_dvd h1.low ⟨g, by rw [eb, Int.mul_comm]⟩
  have ccd : Int.gcd c d' = 1 := cop_of_dvd h2.low ⟨g, by rw [ed, Int.mul_comm]⟩
  have ub : Int.gcd u b' = 1 := by
    rw [eu, Int.add_comm, Int.gcd_mul_right_add_left, Int.gcd_mul_right_left_of_gcd_eq_one cab, Int.gcd_comm]; exact cbd
  have ud : Int.gcd u d' = 1 := by
    rw [eu, Int.gcd_mul_right_add_left, Int.gcd_mul_right_left_of_gcd_eq_one ccd]; exact cbd
  obtain ⟨u', eu'⟩ := Int.gcd_dvd_left u g
  obtain ⟨g', eg'⟩ := Int.gcd_dvd_right u g
  have eu' : u = l * u' := eu'
  have eg' : g = l * g' := eg'
  have qu : u / l = u' := by rw [eu']; exact Int.mul_ediv_cancel_left _ (by omega)
  have qdl : d / l = g' * d' := by rw [ed, eg', Int.mul_assoc]; exact Int.mul_ediv_cancel_left _ (by omega)
  have cug : Int.gcd u' g' = 1 := by
    have := Int.gcd_ediv_gcd_ediv_gcd (i := u) (j := g) (by have : 0 < (Int.gcd u g : Int) := hl; omega)
    have h : Int.gcd (u / l) (g / l) = 1 := this
    rw [qu] at h
    rwa [show g / l = g' from by rw [eg']; exact Int.mul_ediv_cancel_left _ (by omega)] at h
  rw [qu, qb, qdl]
  have hu' : u' ∣ u := ⟨l, by rw [eu', Int.mul_comm]⟩
  have hb' : 0 < b' := by
    have := h1.pos; rw [eb] at this; exact Int.pos_of_mul_pos_right this (by omega)
  have hd' : 0 < d' := by
    have := h2.pos; rw [ed] at this; exact Int.pos_of_mul_pos_right this (by omega)
  have hg' : 0 < g' := by
    have := hg; rw [eg'] at this; exact Int.pos_of_mul_pos_right this (by omega)
  refine low_lw ⟨Int.mul_pos hb' (Int.mul_pos hg' hd'), ?_⟩ (Int.mul_pos h1.pos h2.pos) ?_
  · exact cop_mul (cop_of_dvd_left ub hu') (cop_mul cug (cop_of_dvd_left ud hu'))
  · have e1 : a * d + c * b = g * (l * u') := by
      rw [← eu', eu, eb, ed]
      rw [Int.mul_add, Int.mul_left_comm a, Int.mul_left_comm c]
    rw [e1, eb, ed]
    generalize hG : g = G at *
    rw [eg']
    simp only [Int.mul_assoc, Int.mul_left_comm, Int.mul_comm]
theorem times_eq {a b c d : Int} (h1 : Low a b) (h2 : Low c d) :
    let f : Int := Int.gcd a d
    let s : Int := Int.gcd c b
    lw (a * c) (b * d) = ((a / f) * (c / s), (b / s) * (d / f)) := by
  intro f s
  have hf : 0 < f := gcd_pos h2.pos
  have hs : 0 < s := gcd_pos h1.pos
  obtain ⟨a', ea⟩ := Int.gcd_dvd_left a d
  obtain ⟨d', ed⟩ := Int.gcd_dvd_right a d
  obtain ⟨c', ec⟩ := Int.gcd_dvd_left c b
  obtain ⟨b', eb⟩ := Int.gcd_dvd_right c b
  have ea : a = f * a' := ea
  have ed : d = f * d' := ed
  have ec : c = s * c' := ec
  have eb : b = s * b' := eb
  have qa : a / f = a' := by rw [ea]; exact Int.mul_ediv_cancel_left _ (by omega)
  have qd : d / f = d' := by rw [ed]; exact Int.mul_ediv_cancel_left _ (by omega)
  have qc : c / s = c' := by rw [ec]; exact Int.mul_ediv_cancel_left _ (by omega)
  have qb : b / s = b' := by rw [eb]; exact Int.mul_ediv_cancel_left _ (by omega)
  have cad : Int.gcd a' d' = 1 := by
    have := Int.gcd_ediv_gcd_ediv_gcd (i := a) (j := d) (by have : 0 < (Int.gcd a d : Int) := hf; omega)
    have h : Int.gcd (a / f) (d / f) = 1 := this
    rwa [qa, qd] at h
  have ccb : Int.gcd c' b' = 1 := by
    have := Int.gcd_ediv_gcd_ediv_gcd (i := c) (j := b) (by have : 0 < (Int.gcd c b : Int) := hs; omega)
    have h : Int.gcd (c / s) (b / s) = 1 := this
    rwa [qc, qb] at h
  have cab : Int.gcd a' b' = 1 := cop_of_dvd_left (cop_of_dvd h1.low ⟨s, by rw [eb, Int.mul_comm]⟩) ⟨f, by rw [ea, Int.mul_comm]⟩
  have ccd : Int.gcd c' d' = 1 := cop_of_dvd_left (cop_of_dvd h2.low ⟨f, by rw [ed, Int.mul_comm]⟩) ⟨s, by rw [ec, Int.mul_comm]⟩
  have hb' : 0 < b' := by
    have := h1.pos; rw [eb] at this; exact Int.pos_of_mul_pos_right this (by omega)
  have hd' : 0 < d' := by
    have := h2.pos; rw [ed] at this; exact Int.pos_of_mul_pos_right this (by omega)
  rw [qa, qb, qc, qd]
  refine low_lw ⟨Int.mul_pos hb' hd', ?_⟩ (Int.mul_pos h1.pos h2.pos) ?_
  · have x1 : Int.gcd a' (b' * d') = 1 := cop_mul cab cad
    have x2 : Int.gcd c' (b' * d') = 1 := cop_mul ccb ccd
    rw [Int.gcd_comm] at x1 x2 ⊢
    exact cop_mul x1 x2
  · rw [ea, eb, ec, ed]
    simp only [Int.mul_assoc, Int.mul_left_comm, Int.mul_comm]
end Mf
set_option linter.all false
/-! lists of fractions: the mathematics -/
namespace Mf
abbrev Fr := Int × Int
def addF (x y : Fr) : Fr := lw (x.1 * y.2 + y.1 * x.2) (x.2 * y.2)
def totF (fs : List Fr) : Fr := fs.foldl addF (0, 1)
def whole (fs : List Fr) : Int := fs.foldl (fun w f => w * f.2) 1
def sumN (fs : List Fr) (W : Int) : Int := (fs.map fun f => f.1 * (W / f.2)).sum
def LowF (f : Fr) : Prop := Low f.1 f.2
theorem rev_ind {α : Type} {P : List α → Prop} (h0 : P []) (hs : ∀ l a, P l → P (l ++ [a])) (l : List α) : P l := by
  have : ∀ r : List α, P r.reverse := by
    intro r
    induction r with
    | nil => exact h0
    | cons a r ih => rw [List.reverse_cons]; exact hs _ _ ih
  have := this l.reverse
  rwa [List.reverse_reverse] at this
theorem totF_snoc (l : List Fr) (a : Fr) : totF (l ++ [a]) = addF (totF l) a := by unfold totF; rw [List.foldl_append]; rfl
theorem whole_snoc (l : List Fr) (a : Fr) : whole (l ++ [a]) = whole l * a.2 := by unfold whole; rw [List.foldl_append]; rfl
theorem sumN_snoc (l : List Fr) (a : Fr) (W : Int) : sumN (l ++ [a]) W = sumN l W + a.1 * (W / a.2) := by
  unfold sumN; rw [List.map_append, List.sum_append]; simp
theorem whole_pos (l : List Fr) : (∀ f ∈ l, LowF f) → 0 < whole l := by
  refine rev_ind (P := fun l => (∀ f ∈ l, LowF f) → 0 < whole l) (fun _ => by decide) (fun l a ih h => ?_) l
  rw [whole_snoc]
  exact Int.mul_pos (ih fun f hf => h f (List.mem_append_left _ hf)) (h a (List.mem_append_right _ List.mem_cons_self)).pos
theorem whole_dvd (l : List Fr) : ∀ f ∈ l, f.2 ∣ whole l := by
  refine rev_ind (P := fun l => ∀ f ∈ l, f.2 ∣ whole l) (fun f hf => by cases hf) (fun l a ih f hf => ?_) l
  rw [whole_snoc]
  rcases List.mem_append.mp hf with h | h
  · exact Int.dvd_mul_of_dvd_left (ih f h)
  · rw [List.mem_singleton] at h; subst h; exact Int.dvd_mul_left _ _
theorem sumN_mul (l : List Fr) {W e : Int} (h : ∀ f ∈ l, f.2 ∣ W) : sumN l (W * e) = sumN l W * e := by
  unfold sumN
  induction l with
  | nil => simp
  | cons f l ih =>
    have ih := ih fun g hg => h g (List.mem_cons_of_mem _ hg)
    simp only [List.map_cons, List.sum_cons]
    rw [ih, Int.add_mul]
    congr 1
    have hd := h f List.mem_cons_self
    rw [Int.mul_comm W e, Int.mul_ediv_assoc _ hd, Int.mul_comm e, Int.mul_assoc]
theorem totF_low (l : List Fr) : (∀ f ∈ l, LowF f) → LowF (totF l) := by
  refine rev_ind (P := fun l => (∀ f ∈ l, LowF f) → LowF (totF l)) (fun _ => ⟨by decide, by decide⟩) (fun l a ih h => ?_) l
  rw [totF_snoc]
  have h1 := ih fun f hf => h f (List.mem_append_left _ hf)
  have h2 := h a (List.mem_append_right _ List.mem_cons_self)
  exact lw_low (Int.mul_pos h1.pos h2.pos)
theorem totF_cross (l : List Fr) : (∀ f ∈ l, LowF f) → (totF l).1 * whole l = sumN l (whole l) * (totF l).2 := by
  refine rev_ind (P := fun l => (∀ f ∈ l, LowF f) → (totF l).1 * whole l = sumN l (whole l) * (totF l).2) (fun _ => by decide) (fun l a ih h => ?_) l
  have hl := fun f hf => h f (List.mem_append_left _ hf)
  have ha := h a (List.mem_append_right _ List.mem_cons_self)
  have ih := ih hl
  have l1 := totF_low l hl
  have wp := whole_pos l hl
  have ap := ha.pos
  rw [totF_snoc, whole_snoc, sumN_snoc, sumN_mul l (whole_dvd l), Int.mul_ediv_cancel _ (by omega)]
  have c := lw_cross (n := (totF l).1 * a.2 + a.1 * (totF l).2) (d := (totF l).2 * a.2)
  have c : (addF (totF l) a).1 * ((totF l).2 * a.2) = ((totF l).1 * a.2 + a.1 * (totF l).2) * (addF (totF l) a).2 := c
  have dp := l1.pos
  generalize (addF (totF l) a).1 = N at *
  generalize (addF (totF l) a).2 = M at *
  generalize totF l = t at *
  generalize whole l = W at *
  generalize sumN l W = S at *
  obtain ⟨n, d⟩ := t
  obtain ⟨p, e⟩ := a
  dsimp only at *
  apply Int.eq_of_mul_eq_mul_right (show d ≠ 0 by omega)
  calc N * (W * e) * d = (N * (d * e)) * W := by simp only [Int.mul_assoc, Int.mul_left_comm, Int.mul_comm]
    _ = ((n * e + p * d) * M) * W := by rw [c]
    _ = (n * W) * (e * M) + p * W * M * d := by
      rw [Int.add_mul, Int.add_mul]; congr 1 <;> simp only [Int.mul_assoc, Int.mul_left_comm, Int.mul_comm]
    _ = (S * d) * (e * M) + p * W * M * d := by rw [ih]
    _ = (S * e + p * W) * M * d := by
      rw [Int.add_mul, Int.add_mul]; congr 1; simp only [Int.mul_assoc, Int.mul_left_comm, Int.mul_comm]
theorem totF_eq (l : List Fr) (h : ∀ f ∈ l, LowF f) : lw (sumN l (whole l)) (whole l) = totF l := low_lw (totF_low l h) (whole_pos l h) (totF_cross l h)
/-! ### sizes -/
theorem whole_le (l : List Fr) {k : Nat} : (∀ f ∈ l, LowF f ∧ f.2 ≤ 2 ^ k) → whole l ≤ 2 ^ (k * l.length) := by
  refine rev_ind (P := fun l => (∀ f ∈ l, LowF f ∧ f.2 ≤ 2 ^ k) → whole l ≤ 2 ^ (k * l.length)) (fun _ => by simp [whole]) (fun l a ih h => ?_) l
  have ih := ih fun f hf => h f (List.mem_append_left _ hf)
  have ha := h a (List.mem_append_right _ List.mem_cons_self)
  rw [whole_snoc, List.length_append, List.length_singleton, Nat.mul_add, Int.pow_add, Nat.mul_one]
  have wp := whole_pos l fun f hf => (h f (List.mem_append_left _ hf)).1
  exact Int.mul_le_mul ih ha.2 (Int.le_of_lt ha.1.pos) (by exact Int.pow_nonneg (by decide))
theorem lw_le {n d : Int} (h : 0 < d) : (lw n d).2 ≤ d ∧ (lw n d).1.natAbs ≤ n.natAbs := by
  obtain ⟨e1, e2⟩ := lw_eq (n := n) (d := d)
  have g := gcd_pos (n := n) h
  have p := (lw_low (n := n) h).pos
  generalize (lw n d).1 = a at *
  generalize (lw n d).2 = b at *
  generalize (Int.gcd n d : Int) = G at *
  refine ⟨?_, ?_⟩
  · rw [← e2]; have := Int.mul_le_mul_of_nonneg_left (show (1 : Int) ≤ G by omega) (Int.le_of_lt p); simpa using this
  · rw [← e1, Int.natAbs_mul]
    exact Nat.le_mul_of_pos_right _ (by omega)
theorem ediv_le_self {W d : Int} (hW : 0 < W) (hd : 0 < d) : 0 ≤ W / d ∧ W / d ≤ W :=
  ⟨Int.ediv_nonneg (Int.le_of_lt hW) (Int.le_of_lt hd), Int.ediv_le_self _ (Int.le_of_lt hW)⟩
theorem sumN_le {W : Int} (hW : 0 < W) {k : Nat} : ∀ (l : List Fr), (∀ f ∈ l, LowF f ∧ f.1.natAbs ≤ 2 ^ k) → (sumN l W).natAbs ≤ l.length * (2 ^ k * W.natAbs)
  | [], _ => by simp [sumN]
  | f :: l, h => by
    have ih := sumN_le hW l fun g hg => h g (List.mem_cons_of_mem _ hg)
    have hf := h f List.mem_cons_self
    have e : sumN (f :: l) W = f.1 * (W / f.2) + sumN l W := by simp [sumN]
    rw [e, List.length_cons, Nat.add_mul, Nat.one_mul, Nat.add_comm]
    have q := ediv_le_self hW hf.1.pos
    refine Nat.le_trans (Int.natAbs_add_le _ _) (Nat.add_le_add ?_ ih)
    rw [Int.natAbs_mul]
    exact Nat.mul_le_mul hf.2 (by omega)
end Mf
set_option Elab.async false
set_option linter.all false
namespace Mf
theorem lw_congr {n d n' d' : Int} (hd : 0 < d) (hd' : 0 < d') (e : n * d' = n' * d) : lw n d = lw n' d' := by
  have h := lw_low (n := n') hd'
  have c := lw_cross (n := n') (d := d')
  generalize lw n' d' = L at c h
  refine low_lw (a := L.1) (b := L.2) h hd ?_
  refine Int.eq_of_mul_eq_mul_right (a := d') (by omega) ?_
  calc L.1 * d * d' = (L.1 * d') * d := by ac_rfl
    _ = n' * L.2 * d := by rw [c]
    _ = (n' * d) * L.2 := by ac_rfl
    _ = n * d' * L.2 := by rw [e]
    _ = n * L.2 * d' := by ac_rfl
def mulF (f g : Fr) : Fr := lw (f.1 * g.1) (f.2 * g.2)
theorem mulF_low {f g : Fr} (h : LowF f) (h' : LowF g) : LowF (mulF f g) := lw_low (Int.mul_pos h.pos h'.pos)
theorem mul_lw {a b c d : Int} (hb : 0 < b) (hd : 0 < d) : mulF (lw a b) (lw c d) = lw (a * c) (b * d) := by
  have h1 := (lw_low (n := a) hb).pos
  have h2 := (lw_low (n := c) hd).pos
  refine lw_congr (Int.mul_pos h1 h2) (Int.mul_pos hb hd) ?_
  have e1 := lw_cross (n := a) (d := b)
  have e2 := lw_cross (n := c) (d := d)
  generalize lw a b = L at *
  generalize lw c d = M at *
  calc L.1 * M.1 * (b * d) = (L.1 * b) * (M.1 * d) := by ac_rfl
    _ = (a * L.2) * (c * M.2) := by rw [e1, e2]
    _ = a * c * (L.2 * M.2) := by ac_rfl
theorem add_lw {a b c d : Int} (hb : 0 < b) (hd : 0 < d) : addF (lw a b) (lw c d) = lw (a * d + c * b) (b * d) := by
  have h1 := (lw_low (n := a) hb).pos
  have h2 := (lw_low (n := c) hd).pos
  refine lw_congr (Int.mul_pos h1 h2) (Int.mul_pos hb hd) ?_
  have e1 := lw_cross (n := a) (d := b)
  have e2 := lw_cross (n := c) (d := d)
  generalize lw a b = L at *
  generalize lw c d = M at *
  rw [Int.add_mul, Int.add_mul]
  congr 1
  · calc L.1 * M.2 * (b * d) = (L.1 * b) * (M.2 * d) := by ac_rfl
      _ = (a * L.2) * (M.2 * d) := by rw [e1]
      _ = a * d * (L.2 * M.2) := by ac_rfl
  · calc M.1 * L.2 * (b * d) = (M.1 * d) * (L.2 * b) := by ac_rfl
      _ = (c * M.2) * (L.2 * b) := by rw [e2]
      _ = c * b * (L.2 * M.2) := by ac_rfl
theorem lw_zero {d : Int} (h : 0 < d) : lw 0 d = (0, 1) := low_lw (a := 0) (b := 1) ⟨by decide, by decide⟩ h (by omega)
theorem lw_one {d : Int} (h : 0 < d) : lw d d = (1, 1) := low_lw (a := 1) (b := 1) ⟨by decide, by decide⟩ h (by omega)
/-- shares of one whole come to one -/
theorem tot_parts {S : Int} (hS : 0 < S) (ps : List Int) : totF (ps.map fun p => lw p S) = lw ps.sum S := by
  induction ps using rev_ind with
  | h0 => rw [show ([] : List Int).sum = 0 from rfl, lw_zero hS]; rfl
  | hs l a ih =>
    rw [List.map_append, List.map_cons, List.map_nil, totF_snoc, ih, add_lw hS hS, List.sum_append]
    refine lw_congr (Int.mul_pos hS hS) hS ?_
    rw [show ([a] : List Int).sum = a by simp, ← Int.add_mul, Int.mul_assoc]
theorem whole_posD (l : List Fr) : (∀ f ∈ l, 0 < f.2) → 0 < whole l := by
  induction l using rev_ind with
  | h0 => intro _; decide
  | hs l a ih =>
    intro h
    rw [whole_snoc]
    exact Int.mul_pos (ih fun f hf => h f (List.mem_append_left _ hf)) (h a (by simp))
theorem tot_lw (l : List Fr) : (∀ f ∈ l, 0 < f.2) → totF (l.map fun f => lw f.1 f.2) = lw (sumN l (whole l)) (whole l) := by
  induction l using rev_ind with
  | h0 => intro _; rfl
  | hs l a ih =>
    intro h
    have hl : ∀ f ∈ l, 0 < f.2 := fun f hf => h f (List.mem_append_left _ hf)
    have ha : 0 < a.2 := h a (by simp)
    have hw := whole_posD l hl
    rw [List.map_append, List.map_cons, List.map_nil, totF_snoc, ih hl, add_lw hw ha, whole_snoc, sumN_snoc, sumN_mul l (whole_dvd l), Int.mul_ediv_cancel _ (by omega)]
theorem sumN_nonneg {W : Int} (hW : 0 < W) : ∀ (l : List Fr), (∀ f ∈ l, 0 ≤ f.1 ∧ 0 < f.2) → 0 ≤ sumN l W
  | [], _ => Int.le_refl 0
  | f :: l, h => by
    have h1 := sumN_nonneg hW l fun g hg => h g (List.mem_cons_of_mem _ hg)
    obtain ⟨h2, h3⟩ := h f (by simp)
    have h4 : 0 ≤ f.1 * (W / f.2) := Int.mul_nonneg h2 (Int.ediv_nonneg (by omega) (by omega))
    show 0 ≤ ((f :: l).map fun f => f.1 * (W / f.2)).sum
    rw [List.map_cons, List.sum_cons]
    have : sumN l W = (l.map fun f => f.1 * (W / f.2)).sum := rfl
    omega
/-- a part over the whole of them -/
theorem over_eq {a b W S : Int} (hb : 0 < b) (hW : 0 < W) (hS : 0 < S) (hd : b ∣ W) : mulF (lw a b) ((lw S W).2, (lw S W).1) = lw (a * (W / b)) S := by
  have e1 := lw_cross (n := S) (d := W)
  have h2 := (lw_low (n := S) hW).pos
  have h1 : 0 < (lw S W).1 := by
    refine Int.pos_of_mul_pos_left ?_ hW
    rw [e1]
    exact Int.mul_pos hS h2
  have e2 := lw_cross (n := a) (d := b)
  have h3 := (lw_low (n := a) hb).pos
  obtain ⟨q, hq⟩ := hd
  have e3 : W / b = q := by rw [hq, Int.mul_ediv_cancel_left _ (by omega)]
  unfold mulF
  rw [e3]
  refine lw_congr (Int.mul_pos h3 h1) hS ?_
  generalize lw S W = T at *
  generalize lw a b = L at *
  refine Int.eq_of_mul_eq_mul_right (a := b) (by omega) ?_
  show L.1 * T.2 * S * b = a * q * (L.2 * T.1) * b
  calc L.1 * T.2 * S * b = (L.1 * b) * (S * T.2) := by ac_rfl
    _ = (a * L.2) * (T.1 * W) := by rw [e2, e1]
    _ = (a * L.2) * (T.1 * (b * q)) := by rw [← hq]
    _ = a * q * (L.2 * T.1) * b := by ac_rfl
/-! ### powers -/
def powF (f : Fr) (c : Nat) : Fr := (f.1 ^ c, f.2 ^ c)
theorem powF_low {f : Fr} (h : LowF f) : ∀ c : Nat, LowF (powF f c)
  | 0 => ⟨by show 0 < f.2 ^ 0; rw [Int.pow_zero]; decide, by show Int.gcd (f.1 ^ 0) (f.2 ^ 0) = 1; rw [Int.pow_zero, Int.pow_zero]; decide⟩
  | c + 1 => by
    have ih := powF_low h c
    have k : ∀ n : Nat, Int.gcd f.1 (f.2 ^ n) = 1 := fun n => by
      induction n with
      | zero => rw [Int.pow_zero]; exact Int.gcd_one_right _
      | succ n ih => rw [Int.pow_succ]; exact cop_mul ih h.low
    refine ⟨?_, ?_⟩
    · show 0 < f.2 ^ (c + 1)
      rw [Int.pow_succ]
      exact Int.mul_pos ih.pos h.pos
    · show Int.gcd (f.1 ^ (c + 1)) (f.2 ^ (c + 1)) = 1
      have k2 : ∀ n : Nat, Int.gcd (f.2 ^ (c + 1)) (f.1 ^ n) = 1 := fun n => by
        induction n with
        | zero => rw [Int.pow_zero]; exact Int.gcd_one_right _
        | succ n ih => rw [show f.1 ^ (n + 1) = f.1 ^ n * f.1 from Int.pow_succ ..]; exact cop_mul ih (by rw [Int.gcd_comm]; exact k (c + 1))
      rw [Int.gcd_comm]
      exact k2 (c + 1)
/-- the shares of counts, multiplied -/
def wgtN (zs : List (Fr × Nat)) : Fr := zs.foldl (fun p q => (p.1 * q.1.1 ^ q.2, p.2 * q.1.2 ^ q.2)) (1, 1)
def wgtF (zs : List (Fr × Nat)) : Fr := zs.foldl (fun p q => mulF p (powF q.1 q.2)) (1, 1)
theorem wgtN_snoc (l : List (Fr × Nat)) (a : Fr × Nat) : wgtN (l ++ [a]) = ((wgtN l).1 * a.1.1 ^ a.2, (wgtN l).2 * a.1.2 ^ a.2) := by unfold wgtN; rw [List.foldl_append]; rfl
theorem wgtF_snoc (l : List (Fr × Nat)) (a : Fr × Nat) : wgtF (l ++ [a]) = mulF (wgtF l) (powF a.1 a.2) := by unfold wgtF; rw [List.foldl_append]; rfl
theorem wgtN_pos (l : List (Fr × Nat)) : (∀ z ∈ l, LowF z.1) → 0 < (wgtN l).2 := by
  induction l using rev_ind with
  | h0 => intro _; decide
  | hs l a ih =>
    intro h
    rw [wgtN_snoc]
    exact Int.mul_pos (ih fun f hf => h f (List.mem_append_left _ hf)) (powF_low (h a (by simp)) a.2).pos
theorem wgtF_eq (l : List (Fr × Nat)) : (∀ z ∈ l, LowF z.1) → wgtF l = lw (wgtN l).1 (wgtN l).2 := by
  induction l using rev_ind with
  | h0 => intro _; rfl
  | hs l a ih =>
    intro h
    have hl : ∀ f ∈ l, LowF f.1 := fun f hf => h f (List.mem_append_left _ hf)
    have ha := powF_low (h a (by simp)) a.2
    rw [wgtF_snoc, wgtN_snoc, ih hl]
    have e : powF a.1 a.2 = lw (a.1.1 ^ a.2) (a.1.2 ^ a.2) := (lw_self ha).symm
    rw [e, mul_lw (wgtN_pos l hl) (show 0 < a.1.2 ^ a.2 from ha.pos)]
theorem wgtF_low (l : List (Fr × Nat)) (h : ∀ z ∈ l, LowF z.1) : LowF (wgtF l) := by rw [wgtF_eq l h]; exact lw_low (wgtN_pos l h)
theorem pow_le {x : Int} {B : Nat} (h : x.natAbs ≤ 2 ^ B) (c : Nat) : (x ^ c).natAbs ≤ 2 ^ (B * c) := by
  rw [Int.natAbs_pow, Nat.pow_mul]
  exact Nat.pow_le_pow_left h c
theorem wgtN_le {B : Nat} (l : List (Fr × Nat)) : (∀ z ∈ l, z.1.1.natAbs ≤ 2 ^ B ∧ z.1.2.natAbs ≤ 2 ^ B) → (wgtN l).1.natAbs ≤ 2 ^ (B * (l.map (·.2)).sum) ∧ (wgtN l).2.natAbs ≤ 2 ^ (B * (l.map (·.2)).sum) := by
  induction l using rev_ind with
  | h0 => intro _; exact ⟨Nat.one_le_two_pow, Nat.one_le_two_pow⟩
  | hs l a ih =>
    intro h
    obtain ⟨i1, i2⟩ := ih fun f hf => h f (List.mem_append_left _ hf)
    obtain ⟨a1, a2⟩ := h a (by simp)
    rw [wgtN_snoc, List.map_append, List.sum_append, show ([a].map (·.2)).sum = a.2 by simp, Nat.mul_add, Nat.pow_add]
    exact ⟨by show ((wgtN l).1 * a.1.1 ^ a.2).natAbs ≤ _; rw [Int.natAbs_mul]; exact Nat.mul_le_mul i1 (pow_le a1 _), by show ((wgtN l).2 * a.1.2 ^ a.2).natAbs ≤ _; rw [Int.natAbs_mul]; exact Nat.mul_le_mul i2 (pow_le a2 _)⟩
theorem wgtF_le {B : Nat} (l : List (Fr × Nat)) (hl : ∀ z ∈ l, LowF z.1) (h : ∀ z ∈ l, z.1.1.natAbs ≤ 2 ^ B ∧ z.1.2.natAbs ≤ 2 ^ B) : (wgtF l).1.natAbs ≤ 2 ^ (B * (l.map (·.2)).sum) ∧ (wgtF l).2.natAbs ≤ 2 ^ (B * (l.map (·.2)).sum) := by
  obtain ⟨h1, h2⟩ := wgtN_le l h
  rw [wgtF_eq l hl]
  have hp := wgtN_pos l hl
  obtain ⟨l1, l2⟩ := lw_le (n := (wgtN l).1) hp
  have := (lw_low (n := (wgtN l).1) hp).pos
  exact ⟨Nat.le_trans l2 h1, by omega⟩
theorem wgtN_nonneg (l : List (Fr × Nat)) : (∀ z ∈ l, 0 ≤ z.1.1) → 0 ≤ (wgtN l).1 := by
  induction l using rev_ind with
  | h0 => intro _; decide
  | hs l a ih =>
    intro h
    rw [wgtN_snoc]
    exact Int.mul_nonneg (ih fun f hf => h f (List.mem_append_left _ hf)) (Int.pow_nonneg (h a (by simp)))
end Mf
set_option Elab.async false
set_option linter.all false
namespace Mf
/-! rows of looks and their counts: the mathematics -/
def bin : Nat → Nat → Nat
  | _, 0 => 1
  | 0, _ + 1 => 0
  | n + 1, k + 1 => bin n k + bin n (k + 1)
theorem bin_zero (n : Nat) : bin n 0 = 1 := by cases n <;> rfl
theorem bin_step : ∀ n k : Nat, (k + 1) * bin (n + 1) (k + 1) = (n + 1) * bin n k
  | 0, 0 => rfl
  | 0, k + 1 => by
    show (k + 2) * (bin 0 (k + 1) + bin 0 (k + 2)) = 1 * bin 0 (k + 1)
    simp [bin]
  | n + 1, 0 => by
    have : 1 * bin (n + 1) 1 = (n + 1) * bin n 0 := bin_step n 0
    show 1 * (bin (n + 1) 0 + bin (n + 1) 1) = (n + 2) * bin (n + 1) 0
    rw [bin_zero] at this
    rw [bin_zero]
    omega
  | n + 1, k + 1 => by
    have h1 := bin_step n k
    have h2 := bin_step n (k + 1)
    show (k + 2) * (bin (n + 1) (k + 1) + bin (n + 1) (k + 2)) = (n + 2) * bin (n + 1) (k + 1)
    rw [Nat.mul_add, h2]
    have e : bin (n + 1) (k + 1) = bin n k + bin n (k + 1) := rfl
    have h3 : (k + 2) * bin (n + 1) (k + 1) = (k + 1) * bin (n + 1) (k + 1) + bin (n + 1) (k + 1) := by rw [show k + 2 = k + 1 + 1 from rfl, Nat.add_mul, Nat.one_mul]
    rw [h3, h1]
    have h4 : (n + 2) * bin (n + 1) (k + 1) = (n + 1) * bin (n + 1) (k + 1) + bin (n + 1) (k + 1) := by rw [show n + 2 = n + 1 + 1 from rfl, Nat.add_mul, Nat.one_mul]
    rw [h4, e, Nat.mul_add]
    omega
def fac : Nat → Nat
  | 0 => 1
  | n + 1 => (n + 1) * fac n
theorem fac_pos : ∀ n, 0 < fac n
  | 0 => by decide
  | n + 1 => Nat.mul_pos (Nat.succ_pos n) (fac_pos n)
theorem bin_fac (p : Nat) : ∀ k : Nat, bin (p + k) k * fac k * fac p = fac (p + k)
  | 0 => by rw [bin_zero]; simp [fac]
  | k + 1 => by
    have ih := bin_fac p k
    have h := bin_step (p + k) k
    show bin (p + k + 1) (k + 1) * ((k + 1) * fac k) * fac p = (p + k + 1) * fac (p + k)
    rw [← ih, show bin (p + k + 1) (k + 1) * ((k + 1) * fac k) * fac p = (k + 1) * bin (p + k + 1) (k + 1) * (fac k * fac p) by ac_rfl, h]
    ac_rfl
/-- how many rows have the counts: count by count -/
def mN (cs : List Nat) : Nat := (cs.foldl (fun (p : Nat × Nat) c => (p.1 * bin (p.2 + c) c, p.2 + c)) (1, 0)).1
theorem mN_fold (cs : List Nat) : cs.foldl (fun (p : Nat × Nat) c => (p.1 * bin (p.2 + c) c, p.2 + c)) (1, 0) = (mN cs, cs.sum) := by
  induction cs using rev_ind with
  | h0 => rfl
  | hs l a ih =>
    have e : (l ++ [a]).foldl (fun (p : Nat × Nat) c => (p.1 * bin (p.2 + c) c, p.2 + c)) (1, 0) = (mN l * bin (l.sum + a) a, l.sum + a) := by
      rw [List.foldl_append, ih]; rfl
    unfold mN
    rw [e, List.sum_append]
    simp
theorem mN_snoc (l : List Nat) (a : Nat) : mN (l ++ [a]) = mN l * bin (l.sum + a) a := by
  have e := mN_fold (l ++ [a])
  rw [List.foldl_append, mN_fold l] at e
  exact (congrArg Prod.fst e).symm
def fp (cs : List Nat) : Nat := cs.foldr (fun c p => fac c * p) 1
theorem fp_pos : ∀ cs : List Nat, 0 < fp cs
  | [] => Nat.one_pos
  | c :: cs => Nat.mul_pos (fac_pos c) (fp_pos cs)
theorem fp_app : ∀ a b : List Nat, fp (a ++ b) = fp a * fp b
  | [], b => by show fp b = 1 * fp b; rw [Nat.one_mul]
  | x :: a, b => by
    show fac x * fp (a ++ b) = fac x * fp a * fp b
    rw [fp_app a b, Nat.mul_assoc]
theorem mN_fac (cs : List Nat) : mN cs * fp cs = fac cs.sum := by
  induction cs using rev_ind with
  | h0 => rfl
  | hs l a ih =>
    rw [mN_snoc, fp_app, List.sum_append, show fp [a] = fac a from by show fac a * 1 = fac a; rw [Nat.mul_one]]
    have h := bin_fac l.sum a
    rw [show ([a] : List Nat).sum = a by simp, ← h, ← ih]
    ac_rfl
/-! rows -/
def rowsN (F : Nat) : Nat → List (List Nat)
  | 0 => [[]]
  | n + 1 => (rowsN F n).flatMap fun r => (List.range F).map fun j => r ++ [j]
theorem rowsN_mem {F : Nat} : ∀ {n : Nat} {r : List Nat}, r ∈ rowsN F n → r.length = n ∧ ∀ x ∈ r, x < F
  | 0, r, h => by
    have : r = [] := by simpa [rowsN] using h
    subst this
    exact ⟨rfl, fun x hx => by cases hx⟩
  | n + 1, r, h => by
    obtain ⟨q, hq, h⟩ := List.mem_flatMap.mp h
    obtain ⟨j, hj, rfl⟩ := List.mem_map.mp h
    obtain ⟨h1, h2⟩ := rowsN_mem hq
    refine ⟨by simp [h1], fun x hx => ?_⟩
    rcases List.mem_append.mp hx with hx | hx
    · exact h2 x hx
    · rw [List.mem_singleton.mp hx]; exact List.mem_range.mp hj
def cnt (F : Nat) (r : List Nat) : List Nat := (List.range F).map fun j => r.count j
theorem cnt_len (F : Nat) (r : List Nat) : (cnt F r).length = F := by simp [cnt]
theorem cnt_get {F j : Nat} (r : List Nat) (h : j < F) : (cnt F r)[j]? = some (r.count j) := by
  simp [cnt, h]
theorem cnt_snoc (F : Nat) (r : List Nat) {j : Nat} (h : j < F) : cnt F (r ++ [j]) = (cnt F r).set j (r.count j + 1) := by
  apply List.ext_getElem?
  intro i
  by_cases hi : i < F
  · rw [cnt_get _ hi, List.getElem?_set]
    by_cases e : j = i
    · subst e
      rw [if_pos rfl, if_pos (by rw [cnt_len]; exact h), List.count_append]
      simp
    · rw [if_neg e, cnt_get _ hi, List.count_append]
      simp [List.count_singleton, e]
  · rw [List.getElem?_eq_none (by rw [cnt_len]; omega), List.getElem?_eq_none (by rw [List.length_set, cnt_len]; omega)]
theorem sum_set : ∀ (l : List Nat) (j v x : Nat), l[j]? = some x → (l.set j v).sum + x = l.sum + v
  | [], j, v, x, h => by simp at h
  | a :: l, 0, v, x, h => by
    have : a = x := by simpa using h
    subst this
    simp only [List.set_cons_zero, List.sum_cons]; omega
  | a :: l, j + 1, v, x, h => by
    have := sum_set l j v x (by simpa using h)
    simp only [List.set_cons_succ, List.sum_cons]; omega
theorem cnt_sum {F : Nat} (r : List Nat) : (∀ x ∈ r, x < F) → (cnt F r).sum = r.length := by
  induction r using rev_ind with
  | h0 =>
    intro _
    have : cnt F [] = List.replicate F 0 := by
      apply List.ext_getElem?
      intro i
      by_cases hi : i < F
      · rw [cnt_get _ hi]; simp [hi]
      · rw [List.getElem?_eq_none (by rw [cnt_len]; omega)]; simp [hi]
    rw [this]; simp
  | hs l a ih =>
    intro h
    have ha := h a (by simp)
    have h1 := ih fun x hx => h x (List.mem_append_left _ hx)
    rw [cnt_snoc F l ha]
    have := sum_set (cnt F l) a (l.count a + 1) _ (cnt_get l ha)
    rw [List.length_append, List.length_singleton]
    omega
/-! sums over lists -/
def sm {α : Type} (l : List α) (f : α → Int) : Int := (l.map f).sum
theorem sm_nil {α : Type} (f : α → Int) : sm [] f = 0 := rfl
theorem sm_cons {α : Type} (a : α) (l : List α) (f : α → Int) : sm (a :: l) f = f a + sm l f := by simp [sm]
theorem sm_app {α : Type} (a b : List α) (f : α → Int) : sm (a ++ b) f = sm a f + sm b f := by simp [sm, List.map_append, List.sum_append]
theorem sm_add {α : Type} (l : List α) (f g : α → Int) : sm l (fun a => f a + g a) = sm l f + sm l g := by
  induction l with
  | nil => rfl
  | cons a l ih => rw [sm_cons, sm_cons, sm_cons, ih]; omega
theorem sm_mul {α : Type} (l : List α) (f : α → Int) (x : Int) : sm l (fun a => f a * x) = sm l f * x := by
  induction l with
  | nil => simp [sm]
  | cons a l ih => rw [sm_cons, sm_cons, ih, Int.add_mul]
theorem sm_mulL {α : Type} (l : List α) (f : α → Int) (x : Int) : sm l (fun a => x * f a) = x * sm l f := by
  induction l with
  | nil => simp [sm]
  | cons a l ih => rw [sm_cons, sm_cons, ih, Int.mul_add]
theorem sm_congr {α : Type} {l : List α} {f g : α → Int} (h : ∀ a ∈ l, f a = g a) : sm l f = sm l g := by
  unfold sm
  rw [List.map_congr_left h]
theorem sm_swap {α β : Type} (l : List α) (m : List β) (f : α → β → Int) : sm l (fun a => sm m fun b => f a b) = sm m fun b => sm l fun a => f a b := by
  induction l with
  | nil =>
    rw [sm_nil]
    induction m with
    | nil => rfl
    | cons b m ih => rw [sm_cons, ← ih]; rfl
  | cons a l ih =>
    rw [sm_cons, ih, ← sm_add]
    exact sm_congr fun b _ => (sm_cons a l fun a => f a b).symm
theorem sm_flat {α β : Type} (l : List α) (g : α → List β) (f : β → Int) : sm (l.flatMap g) f = sm l fun a => sm (g a) f := by
  induction l with
  | nil => rfl
  | cons a l ih => rw [List.flatMap_cons, sm_app, sm_cons, ih]
theorem sm_map {α β : Type} (l : List α) (g : α → β) (f : β → Int) : sm (l.map g) f = sm l fun a => f (g a) := by
  unfold sm; rw [List.map_map]; rfl
theorem sm_zero {α : Type} (l : List α) : sm l (fun _ => 0) = 0 := by
  induction l with
  | nil => rfl
  | cons a l ih => rw [sm_cons, ih]; rfl
theorem sm_pick {F i : Nat} (h : i < F) (f : Nat → Int) : sm (List.range F) (fun j => if i = j then f j else 0) = f i := by
  induction F with
  | zero => omega
  | succ F ih =>
    rw [List.range_succ, sm_app, sm_cons, sm_nil]
    by_cases e : i = F
    · subst e
      rw [if_pos rfl]
      have : sm (List.range i) (fun j => if i = j then f j else 0) = sm (List.range i) fun _ => 0 := sm_congr fun j hj => if_neg (by have := List.mem_range.mp hj; omega)
      rw [this, sm_zero]; omega
    · rw [if_neg e, ih (by omega)]; omega
/-- how many rows of n have the counts -/
def nr (F n : Nat) (c : List Nat) : Int := sm (rowsN F n) fun r => if cnt F r = c then 1 else 0
theorem fp_set : ∀ (c : List Nat) (j x : Nat), c[j]? = some (x + 1) → fp c = (x + 1) * fp (c.set j x)
  | [], j, x, h => by simp at h
  | a :: c, 0, x, h => by
    have : a = x + 1 := by simpa using h
    subst this
    show fac (x + 1) * fp c = (x + 1) * (fac x * fp c)
    rw [← Nat.mul_assoc]; rfl
  | a :: c, j + 1, x, h => by
    have := fp_set c j x (by simpa using h)
    show fac a * fp c = (x + 1) * (fac a * fp (c.set j x))
    rw [this]; ac_rfl
theorem cnt_nil (F : Nat) : cnt F [] = List.replicate F 0 := by
  apply List.ext_getElem?
  intro i
  by_cases hi : i < F
  · rw [cnt_get _ hi]; simp [hi]
  · rw [List.getElem?_eq_none (by rw [cnt_len]; omega)]; simp [hi]
theorem zero_of_sum : ∀ {c : List Nat}, c.sum = 0 → c = List.replicate c.length 0
  | [], _ => rfl
  | a :: c, h => by
    rw [List.sum_cons] at h
    have h1 := zero_of_sum (c := c) (by omega)
    have h2 : a = 0 := by omega
    rw [List.length_cons, List.replicate_succ, ← h1, h2]
theorem fp_zeros : ∀ n : Nat, fp (List.replicate n 0) = 1
  | 0 => rfl
  | n + 1 => by
    rw [List.replicate_succ]
    show fac 0 * fp (List.replicate n 0) = 1
    rw [fp_zeros n]; rfl
theorem snoc_iff {F : Nat} {r c : List Nat} {j x : Nat} (hj : j < F) (hc : c.length = F) (hx : c[j]? = some x) : cnt F (r ++ [j]) = c ↔ 0 < x ∧ cnt F r = c.set j (x - 1) := by
  rw [cnt_snoc F r hj]
  constructor
  · intro e
    have h1 : ((cnt F r).set j (r.count j + 1))[j]? = some (r.count j + 1) := List.getElem?_set_self (by rw [cnt_len]; exact hj)
    rw [e, hx] at h1
    injection h1 with h1
    refine ⟨by omega, ?_⟩
    rw [← e, List.set_set, h1, Nat.add_sub_cancel]
    have h2 := cnt_get r hj
    apply List.ext_getElem?
    intro i
    rw [List.getElem?_set]
    by_cases hi : j = i
    · subst hi; rw [if_pos rfl, if_pos (by rw [cnt_len]; exact hj), h2]
    · rw [if_neg hi]
  · rintro ⟨h0, e⟩
    have h2 := cnt_get r hj
    rw [e, List.getElem?_set_self (by omega)] at h2
    injection h2 with h2
    rw [e, List.set_set, show r.count j + 1 = x by omega]
    apply List.ext_getElem?
    intro i
    rw [List.getElem?_set]
    by_cases hi : j = i
    · subst hi; rw [if_pos rfl, if_pos (by omega), hx]
    · rw [if_neg hi]
theorem sm_cast_sum (l : List Nat) : sm (List.range l.length) (fun j => ((l.getD j 0 : Nat) : Int)) = (l.sum : Nat) := by
  induction l using rev_ind with
  | h0 => rfl
  | hs l a ih =>
    rw [List.length_append, List.length_singleton, List.range_succ, sm_app, sm_cons, sm_nil, List.sum_append]
    have e1 : sm (List.range l.length) (fun j => (((l ++ [a]).getD j 0 : Nat) : Int)) = sm (List.range l.length) fun j => ((l.getD j 0 : Nat) : Int) := sm_congr fun j hj => by
      have := List.mem_range.mp hj
      simp only [List.getD_eq_getElem?_getD]
      rw [List.getElem?_append_left this]
    rw [e1, ih]
    have e2 : (l ++ [a]).getD l.length 0 = a := by simp
    rw [e2]
    simp
theorem nr_fac (F : Nat) : ∀ (n : Nat) (c : List Nat), c.length = F → c.sum = n → nr F n c * (fp c : Nat) = (fac n : Nat)
  | 0, c, hl, hs => by
    have e := zero_of_sum hs
    have h1 : cnt F [] = c := by rw [cnt_nil, e, hl]
    have h2 : fp c = 1 := by rw [e]; exact fp_zeros _
    show sm [[]] (fun r => if cnt F r = c then 1 else 0) * _ = _
    rw [sm_cons, sm_nil, if_pos h1, h2]; rfl
  | n + 1, c, hl, hs => by
    have key : nr F (n + 1) c = sm (List.range F) fun j => if 0 < c.getD j 0 then nr F n (c.set j (c.getD j 0 - 1)) else 0 := by
      unfold nr
      rw [show rowsN F (n + 1) = (rowsN F n).flatMap fun r => (List.range F).map fun j => r ++ [j] from rfl, sm_flat]
      have e1 : (fun r : List Nat => sm ((List.range F).map fun j => r ++ [j]) fun r => if cnt F r = c then (1 : Int) else 0) = fun r => sm (List.range F) fun j => if cnt F (r ++ [j]) = c then 1 else 0 := funext fun r => sm_map _ _ _
      rw [e1, sm_swap]
      refine sm_congr fun j hj => ?_
      have hj := List.mem_range.mp hj
      have hx : c[j]? = some (c.getD j 0) := by rw [List.getD_eq_getElem?_getD, List.getElem?_eq_getElem (by omega)]; rfl
      by_cases h0 : 0 < c.getD j 0
      · rw [if_pos h0]
        refine sm_congr fun r _ => ?_
        by_cases e : cnt F (r ++ [j]) = c
        · rw [if_pos e, if_pos ((snoc_iff hj hl hx).mp e).2]
        · rw [if_neg e, if_neg fun z => e ((snoc_iff hj hl hx).mpr ⟨h0, z⟩)]
      · rw [if_neg h0]
        have : sm (rowsN F n) (fun r => if cnt F (r ++ [j]) = c then (1 : Int) else 0) = sm (rowsN F n) fun _ => 0 := sm_congr fun r _ => if_neg fun z => h0 ((snoc_iff hj hl hx).mp z).1
        rw [this, sm_zero]
    rw [key, ← sm_mul]
    have e2 : sm (List.range F) (fun j => (if 0 < c.getD j 0 then nr F n (c.set j (c.getD j 0 - 1)) else 0) * (fp c : Nat)) = sm (List.range F) fun j => ((c.getD j 0 : Nat) : Int) * (fac n : Nat) := by
      refine sm_congr fun j hj => ?_
      have hj := List.mem_range.mp hj
      have hx : c[j]? = some (c.getD j 0) := by rw [List.getD_eq_getElem?_getD, List.getElem?_eq_getElem (by omega)]; rfl
      generalize c.getD j 0 = x at hx
      by_cases h0 : 0 < x
      · rw [if_pos h0]
        obtain ⟨y, rfl⟩ : ∃ y, x = y + 1 := ⟨x - 1, by omega⟩
        rw [Nat.add_sub_cancel, fp_set c j y hx]
        have hset := sum_set c j y (y + 1) hx
        have ih := nr_fac F n (c.set j y) (by rw [List.length_set]; exact hl) (by omega)
        rw [← ih]
        rw [Int.natCast_mul]
        generalize nr F n (c.set j y) = A
        generalize ((fp (c.set j y) : Nat) : Int) = B
        generalize ((y + 1 : Nat) : Int) = C
        rw [Int.mul_left_comm]
      · have : x = 0 := by omega
        subst this
        rw [if_neg (by decide)]; simp
    rw [e2, sm_mul]
    have e3 := sm_cast_sum c
    rw [hl] at e3
    rw [e3, hs]
    show ((n + 1 : Nat) : Int) * (fac n : Nat) = ((n + 1) * fac n : Nat)
    rw [Int.natCast_mul]
theorem nr_eq {F n : Nat} {c : List Nat} (hl : c.length = F) (hs : c.sum = n) : nr F n c = (mN c : Nat) := by
  have h1 := nr_fac F n c hl hs
  have h2 := mN_fac c
  rw [hs] at h2
  rw [← h2, Int.natCast_mul] at h1
  exact Int.eq_of_mul_eq_mul_right (by have := fp_pos c; omega) h1
/-! all counts -/
def cta : Nat → Nat → List (List Nat)
  | 0, _ => []
  | 1, m => [[m]]
  | F + 2, m => (List.range (m + 1)).flatMap fun k => (cta (F + 1) (m - k)).map fun c => k :: c
theorem cta_mem : ∀ {F m : Nat} {c : List Nat}, c ∈ cta F m → c.length = F ∧ c.sum = m
  | 0, m, c, h => by cases h
  | 1, m, c, h => by
    have : c = [m] := by simpa [cta] using h
    subst this; simp
  | F + 2, m, c, h => by
    obtain ⟨k, hk, h⟩ := List.mem_flatMap.mp h
    obtain ⟨d, hd, rfl⟩ := List.mem_map.mp h
    have hk := List.mem_range.mp hk
    obtain ⟨h1, h2⟩ := cta_mem hd
    refine ⟨by simp [h1], ?_⟩
    rw [List.sum_cons]; omega
theorem cta_pick : ∀ (F m : Nat) (d : List Nat) (g : List Nat → Int), d.length = F + 1 → d.sum = m → sm (cta (F + 1) m) (fun c => if d = c then g c else 0) = g d
  | 0, m, d, g, hl, hs => by
    obtain ⟨x, rfl⟩ : ∃ x, d = [x] := by
      match d, hl with
      | [x], _ => exact ⟨x, rfl⟩
    have : x = m := by simpa using hs
    subst this
    show sm [[x]] _ = _
    rw [sm_cons, sm_nil, if_pos rfl]; omega
  | F + 1, m, d, g, hl, hs => by
    obtain ⟨x, e, rfl⟩ : ∃ x e, d = x :: e := by
      match d, hl with
      | x :: e, _ => exact ⟨x, e, rfl⟩
    rw [List.sum_cons] at hs
    have hle : e.length = F + 1 := by simpa using hl
    show sm ((List.range (m + 1)).flatMap fun k => (cta (F + 1) (m - k)).map fun c => k :: c) _ = _
    rw [sm_flat]
    have e1 : sm (List.range (m + 1)) (fun k => sm ((cta (F + 1) (m - k)).map fun c => k :: c) fun c => if x :: e = c then g c else 0) = sm (List.range (m + 1)) fun k => if x = k then g (k :: e) else 0 := by
      refine sm_congr fun k hk => ?_
      rw [sm_map]
      by_cases h : x = k
      · subst h
        rw [if_pos rfl, ← cta_pick F (m - x) e (fun c => g (x :: c)) hle (by omega)]
        refine sm_congr fun c _ => ?_
        by_cases h2 : e = c
        · subst h2; rw [if_pos rfl, if_pos rfl]
        · rw [if_neg h2, if_neg fun z => h2 (by injection z)]
      · rw [if_neg h]
        have : sm (cta (F + 1) (m - k)) (fun a => if x :: e = k :: a then g (k :: a) else 0) = sm (cta (F + 1) (m - k)) fun _ => 0 := sm_congr fun c _ => if_neg fun z => h (by injection z)
        rw [this, sm_zero]
    rw [e1]
    exact sm_pick (by omega) fun k => g (k :: e)
/-- rows grouped by their counts -/
theorem group {F n : Nat} (hF : 0 < F) (g : List Nat → Int) : sm (cta F n) (fun c => (mN c : Nat) * g c) = sm (rowsN F n) fun r => g (cnt F r) := by
  obtain ⟨G, rfl⟩ : ∃ G, F = G + 1 := ⟨F - 1, by omega⟩
  have e1 : sm (cta (G + 1) n) (fun c => (mN c : Nat) * g c) = sm (cta (G + 1) n) fun c => sm (rowsN (G + 1) n) fun r => if cnt (G + 1) r = c then g c else 0 := by
    refine sm_congr fun c hc => ?_
    obtain ⟨h1, h2⟩ := cta_mem hc
    rw [← nr_eq h1 h2]
    unfold nr
    rw [← sm_mul]
    refine sm_congr fun r _ => ?_
    by_cases h : cnt (G + 1) r = c
    · rw [if_pos h, if_pos h]; omega
    · rw [if_neg h, if_neg h]; omega
  rw [e1, sm_swap]
  refine sm_congr fun r hr => ?_
  obtain ⟨h1, h2⟩ := rowsN_mem hr
  exact cta_pick G n (cnt (G + 1) r) g (cnt_len _ _) (by rw [cnt_sum r h2, h1])
end Mf
set_option Elab.async false
set_option linter.all false
namespace Mf
/-! shares of rows by one lower number -/
def xsOf (fs : List Fr) : List Int := fs.map fun f => f.1 * (whole fs / f.2)
theorem xsOf_len (fs : List Fr) : (xsOf fs).length = fs.length := by simp [xsOf]
theorem lw_part {f : Fr} {D : Int} (h : LowF f) (hD : 0 < D) (hd : f.2 ∣ D) : lw (f.1 * (D / f.2)) D = f := by
  obtain ⟨a, b⟩ := f
  refine low_lw h hD ?_
  obtain ⟨k, rfl⟩ := hd
  have hb : b ≠ 0 := by have : 0 < b := h.pos; omega
  show a * (b * k) = a * (b * k / b) * b
  rw [Int.mul_ediv_cancel_left _ hb, Int.mul_assoc, Int.mul_comm k b]
def shF (fs : List Fr) (r : List Nat) : Fr := r.foldl (fun p j => mulF p (fs.getD j (0, 1))) (1, 1)
theorem shF_snoc (fs : List Fr) (r : List Nat) (j : Nat) : shF fs (r ++ [j]) = mulF (shF fs r) (fs.getD j (0, 1)) := by unfold shF; rw [List.foldl_append]; rfl
def prX (xs : List Int) (r : List Nat) : Int := r.foldl (fun p j => p * xs.getD j 0) 1
theorem prX_snoc (xs : List Int) (r : List Nat) (j : Nat) : prX xs (r ++ [j]) = prX xs r * xs.getD j 0 := by unfold prX; rw [List.foldl_append]; rfl
theorem getD_map {α β : Type} (l : List α) (g : α → β) (j : Nat) (a : α) (b : β) (h : j < l.length) : (l.map g).getD j b = g (l.getD j a) := by
  simp [List.getD_eq_getElem?_getD, h]
theorem getD_mem {α : Type} (l : List α) (j : Nat) (a : α) (h : j < l.length) : l.getD j a ∈ l := by
  rw [List.getD_eq_getElem?_getD, List.getElem?_eq_getElem h]
  exact List.getElem_mem h
theorem part_at {fs : List Fr} (hl : ∀ f ∈ fs, LowF f) {j : Nat} (hj : j < fs.length) : fs.getD j (0, 1) = lw ((xsOf fs).getD j 0) (whole fs) := by
  have hm := getD_mem fs j (0, 1) hj
  unfold xsOf
  rw [getD_map fs _ j (0, 1) 0 hj]
  exact (lw_part (hl _ hm) (whole_pos fs hl) (whole_dvd fs _ hm)).symm
theorem shF_eq {fs : List Fr} (hl : ∀ f ∈ fs, LowF f) (r : List Nat) : (∀ x ∈ r, x < fs.length) → shF fs r = lw (prX (xsOf fs) r) (whole fs ^ r.length) := by
  have hD := whole_pos fs hl
  induction r using rev_ind with
  | h0 =>
    intro _
    show (1, 1) = lw 1 (whole fs ^ 0)
    rw [Int.pow_zero]
    exact (lw_one (d := 1) (by decide)).symm
  | hs r j ih =>
    intro h
    rw [shF_snoc, ih fun x hx => h x (List.mem_append_left _ hx), part_at hl (h j (by simp)), mul_lw (Int.pow_pos hD) hD, prX_snoc, List.length_append, List.length_singleton, Int.pow_succ]
theorem sum_rows {F : Nat} (xs : List Int) (h : xs.length = F) : ∀ n : Nat, sm (rowsN F n) (prX xs) = xs.sum ^ n
  | 0 => by
    show sm [[]] (prX xs) = xs.sum ^ 0
    rw [sm_cons, sm_nil, Int.pow_zero]; rfl
  | n + 1 => by
    rw [show rowsN F (n + 1) = (rowsN F n).flatMap fun r => (List.range F).map fun j => r ++ [j] from rfl, sm_flat, Int.pow_succ, ← sum_rows xs h n, ← sm_mul]
    refine sm_congr fun r _ => ?_
    rw [sm_map]
    have e : sm (List.range F) (fun j => prX xs (r ++ [j])) = sm (List.range F) fun j => prX xs r * xs.getD j 0 := sm_congr fun j _ => prX_snoc xs r j
    rw [e, sm_mulL]
    congr 1
    subst h
    have key : ∀ l : List Int, sm (List.range l.length) (fun j => l.getD j 0) = l.sum := by
      intro l
      induction l using rev_ind with
      | h0 => rfl
      | hs l a ih =>
        rw [List.length_append, List.length_singleton, List.range_succ, sm_app, sm_cons, sm_nil, List.sum_append]
        have e1 : sm (List.range l.length) (fun j => (l ++ [a]).getD j 0) = sm (List.range l.length) fun j => l.getD j 0 := sm_congr fun j hj => by
          have := List.mem_range.mp hj
          simp only [List.getD_eq_getElem?_getD]
          rw [List.getElem?_append_left this]
        rw [e1, ih]
        simp
    exact key xs
def gX (xs : List Int) (c : List Nat) : Int := (xs.zip c).foldr (fun q p => q.1 ^ q.2 * p) 1
theorem gX_cons (x : Int) (xs : List Int) (k : Nat) (c : List Nat) : gX (x :: xs) (k :: c) = x ^ k * gX xs c := rfl
theorem gX_set : ∀ (xs : List Int) (c : List Nat) (j k : Nat) (x : Int), xs[j]? = some x → c[j]? = some k → gX xs (c.set j (k + 1)) = gX xs c * x
  | [], c, j, k, x, h, _ => by simp at h
  | y :: xs, [], j, k, x, _, h => by simp at h
  | y :: xs, a :: c, 0, k, x, h1, h2 => by
    have e1 : y = x := by simpa using h1
    have e2 : a = k := by simpa using h2
    subst e1 e2
    show y ^ (a + 1) * gX xs c = y ^ a * gX xs c * y
    rw [Int.pow_succ]; ac_rfl
  | y :: xs, a :: c, j + 1, k, x, h1, h2 => by
    have := gX_set xs c j k x (by simpa using h1) (by simpa using h2)
    show y ^ a * gX xs (c.set j (k + 1)) = y ^ a * gX xs c * x
    rw [this]; ac_rfl
theorem gX_zero : ∀ (xs : List Int) (n : Nat), gX xs (List.replicate n 0) = 1
  | [], n => by cases n <;> rfl
  | x :: xs, 0 => rfl
  | x :: xs, n + 1 => by
    rw [List.replicate_succ, gX_cons, gX_zero xs n, Int.pow_zero]; rfl
theorem prX_cnt {F : Nat} {xs : List Int} (h : xs.length = F) (r : List Nat) : (∀ x ∈ r, x < F) → prX xs r = gX xs (cnt F r) := by
  induction r using rev_ind with
  | h0 => intro _; rw [cnt_nil, gX_zero]; rfl
  | hs r j ih =>
    intro hr
    have hj := hr j (by simp)
    have hx : xs[j]? = some (xs.getD j 0) := by rw [List.getD_eq_getElem?_getD, List.getElem?_eq_getElem (by omega)]; rfl
    rw [prX_snoc, ih fun x hx => hr x (List.mem_append_left _ hx), cnt_snoc F r hj, gX_set xs _ j _ _ hx (cnt_get r hj)]
theorem pow_lw {a b : Int} (hb : 0 < b) : ∀ c : Nat, powF (lw a b) c = lw (a ^ c) (b ^ c) := by
  intro c
  have hl : LowF (lw a b) := lw_low hb
  have h := powF_low hl c
  refine (low_lw (a := (powF (lw a b) c).1) (b := (powF (lw a b) c).2) h (Int.pow_pos hb) ?_).symm
  have e := lw_cross (n := a) (d := b)
  show (lw a b).1 ^ c * b ^ c = a ^ c * (lw a b).2 ^ c
  rw [← Int.mul_pow, ← Int.mul_pow, e]
theorem wgt_zip {D : Int} (hD : 0 < D) : ∀ (xs : List Int) (cs : List Nat), xs.length = cs.length → wgtF ((xs.map fun x => lw x D).zip cs) = lw (gX xs cs) (D ^ cs.sum) := by
  have key : ∀ (zs : List (Int × Nat)), wgtF (zs.map fun z => (lw z.1 D, z.2)) = lw (zs.foldr (fun q p => q.1 ^ q.2 * p) 1) (D ^ (zs.map (·.2)).sum) := by
    intro zs
    induction zs using rev_ind with
    | h0 =>
      show (1, 1) = lw 1 (D ^ 0)
      rw [Int.pow_zero]
      exact (lw_one (d := 1) (by decide)).symm
    | hs zs z ih =>
      rw [List.map_append, List.map_append, List.sum_append]
      show wgtF (zs.map (fun z => (lw z.1 D, z.2)) ++ [(lw z.1 D, z.2)]) = _
      rw [wgtF_snoc, ih]
      show mulF _ (powF (lw z.1 D) z.2) = _
      rw [pow_lw hD, mul_lw (Int.pow_pos hD) (Int.pow_pos hD), ← Int.pow_add]
      have e : ∀ (l : List (Int × Nat)) (y : Int), l.foldr (fun q p => q.1 ^ q.2 * p) y = l.foldr (fun q p => q.1 ^ q.2 * p) 1 * y := by
        intro l y
        induction l with
        | nil => show y = 1 * y; omega
        | cons a l ih => show a.1 ^ a.2 * _ = a.1 ^ a.2 * _ * y; rw [ih, Int.mul_assoc]
      rw [List.foldr_append, e zs ([z].foldr (fun q p => q.1 ^ q.2 * p) 1)]
      show lw _ _ = lw (_ * (z.1 ^ z.2 * 1)) (D ^ (_ + ([z].map (·.2)).sum))
      rw [Int.mul_one]
      simp
  intro xs cs hl
  have e1 : (xs.map fun x => lw x D).zip cs = (xs.zip cs).map fun z => (lw z.1 D, z.2) := by
    rw [List.zip_map_left]; rfl
  have e2 : (xs.zip cs).map (·.2) = cs := List.map_snd_zip (by omega)
  rw [e1, key, e2]; rfl
theorem fs_xs {fs : List Fr} (hl : ∀ f ∈ fs, LowF f) : (xsOf fs).map (fun x => lw x (whole fs)) = fs := by
  unfold xsOf
  rw [List.map_map]
  conv => rhs; rw [← List.map_id fs]
  refine List.map_congr_left fun f hf => ?_
  exact lw_part (hl f hf) (whole_pos fs hl) (whole_dvd fs f hf)
theorem wgt_eq {fs : List Fr} (hl : ∀ f ∈ fs, LowF f) {cs : List Nat} (h : fs.length = cs.length) : wgtF (fs.zip cs) = lw (gX (xsOf fs) cs) (whole fs ^ cs.sum) := by
  have := wgt_zip (whole_pos fs hl) (xsOf fs) cs (by rw [xsOf_len, h])
  rwa [fs_xs hl] at this
theorem xs_sum {fs : List Fr} (hl : ∀ f ∈ fs, LowF f) (h1 : totF fs = (1, 1)) : (xsOf fs).sum = whole fs := by
  have c := totF_cross fs hl
  rw [h1] at c
  have : (1 : Int) * whole fs = sumN fs (whole fs) * 1 := c
  show sumN fs (whole fs) = _
  omega
theorem sm_list {α : Type} (l : List α) (f : α → Int) : (l.map f).sum = sm l f := rfl
theorem tot_rows {fs : List Fr} (hl : ∀ f ∈ fs, LowF f) (h1 : totF fs = (1, 1)) (n : Nat) : totF ((rowsN fs.length n).map (shF fs)) = (1, 1) := by
  have hD := whole_pos fs hl
  have e : (rowsN fs.length n).map (shF fs) = ((rowsN fs.length n).map (prX (xsOf fs))).map fun p => lw p (whole fs ^ n) := by
    rw [List.map_map]
    refine List.map_congr_left fun r hr => ?_
    obtain ⟨h2, h3⟩ := rowsN_mem hr
    rw [shF_eq hl r h3, h2]; rfl
  rw [e, tot_parts (Int.pow_pos hD), sm_list, sum_rows _ (xsOf_len fs), xs_sum hl h1, lw_one (Int.pow_pos hD)]
theorem sum_cta {fs : List Fr} (hl : ∀ f ∈ fs, LowF f) (h1 : totF fs = (1, 1)) (h0 : 0 < fs.length) (n : Nat) : sm (cta fs.length n) (fun c => (mN c : Nat) * gX (xsOf fs) c) = whole fs ^ n := by
  rw [group h0 (gX (xsOf fs)), ← xs_sum hl h1, ← sum_rows _ (xsOf_len fs)]
  refine sm_congr fun r hr => ?_
  obtain ⟨h2, h3⟩ := rowsN_mem hr
  exact (prX_cnt (xsOf_len fs) r h3).symm
theorem tot_cta {fs : List Fr} (hl : ∀ f ∈ fs, LowF f) (h1 : totF fs = (1, 1)) (h0 : 0 < fs.length) (n : Nat) : totF ((cta fs.length n).map fun c => mulF (((mN c : Nat) : Int), 1) (wgtF (fs.zip c))) = (1, 1) := by
  have hD := whole_pos fs hl
  have e : ((cta fs.length n).map fun c => mulF (((mN c : Nat) : Int), 1) (wgtF (fs.zip c))) = ((cta fs.length n).map fun c => (mN c : Nat) * gX (xsOf fs) c).map fun p => lw p (whole fs ^ n) := by
    rw [List.map_map]
    refine List.map_congr_left fun c hc => ?_
    obtain ⟨h2, h3⟩ := cta_mem hc
    rw [wgt_eq hl (by omega), h3]
    have e1 : (((mN c : Nat) : Int), (1 : Int)) = lw ((mN c : Nat) : Int) 1 := (lw_self (a := ((mN c : Nat) : Int)) (b := 1) ⟨by decide, Int.gcd_one_right _⟩).symm
    rw [e1, mul_lw (by decide) (Int.pow_pos hD), Int.one_mul]; rfl
  rw [e, tot_parts (Int.pow_pos hD), sm_list, sum_cta hl h1 h0, lw_one (Int.pow_pos hD)]
/-- what a mix's part comes to, over all counts -/
theorem tot_mix {fs : List Fr} (hl : ∀ f ∈ fs, LowF f) (h1 : totF fs = (1, 1)) (h0 : 0 < fs.length) (n : Nat) {m : Fr} (hm : LowF m) :
    totF ((cta fs.length n).map fun c => lw ((mN c : Nat) * (m.1 * (wgtN (fs.zip c)).1)) (m.2 * (wgtN (fs.zip c)).2)) = m := by
  have hD := whole_pos fs hl
  have hmp := hm.pos
  have e : ((cta fs.length n).map fun c => lw ((mN c : Nat) * (m.1 * (wgtN (fs.zip c)).1)) (m.2 * (wgtN (fs.zip c)).2)) = ((cta fs.length n).map fun c => m.1 * ((mN c : Nat) * gX (xsOf fs) c)).map fun p => lw p (m.2 * whole fs ^ n) := by
    rw [List.map_map]
    refine List.map_congr_left fun c hc => ?_
    obtain ⟨h2, h3⟩ := cta_mem hc
    have zl : ∀ z ∈ fs.zip c, LowF z.1 := fun z hz => hl _ (List.of_mem_zip (a := z.1) (b := z.2) hz).1
    have w1 := wgtF_eq (fs.zip c) zl
    have wp := wgtN_pos (fs.zip c) zl
    rw [wgt_eq hl (by omega), h3] at w1
    have dp : 0 < whole fs ^ n := Int.pow_pos hD
    have c1 := lw_cross (n := gX (xsOf fs) c) (d := whole fs ^ n)
    have c2 := lw_cross (n := (wgtN (fs.zip c)).1) (d := (wgtN (fs.zip c)).2)
    have hp := (lw_low (n := gX (xsOf fs) c) dp).pos
    rw [← w1] at c2
    show lw ((mN c : Nat) * (m.1 * (wgtN (fs.zip c)).1)) (m.2 * (wgtN (fs.zip c)).2) = lw (m.1 * ((mN c : Nat) * gX (xsOf fs) c)) (m.2 * whole fs ^ n)
    generalize (wgtN (fs.zip c)).1 = a at *
    generalize (wgtN (fs.zip c)).2 = b at *
    generalize gX (xsOf fs) c = g at *
    generalize whole fs ^ n = d at *
    generalize (lw g d).1 = u at *
    generalize (lw g d).2 = v at *
    refine lw_congr (Int.mul_pos hmp wp) (Int.mul_pos hmp dp) ?_
    have h : a * d = g * b := by
      have : (a * d) * v = (g * b) * v := by
        rw [Int.mul_right_comm a d v, ← c2, Int.mul_right_comm g b v, ← c1]
        ac_rfl
      exact Int.eq_of_mul_eq_mul_right (by omega) this
    rw [show ((mN c : Nat) : Int) * (m.1 * a) * (m.2 * d) = (mN c : Nat) * m.1 * m.2 * (a * d) by ac_rfl, h]
    ac_rfl
  rw [e, tot_parts (Int.mul_pos hmp (Int.pow_pos hD)), sm_list, sm_mulL, sum_cta hl h1 h0]
  rw [lw_congr (n' := m.1) (d' := m.2) (Int.mul_pos hmp (Int.pow_pos hD)) hmp (by ac_rfl)]
  exact lw_self hm
end Mf
set_option Elab.async false
set_option linter.all false
set_option maxRecDepth 100000
namespace Kw
open PySem L2 Mf
def top (i : Nat) : Stmt := PySem.Challenge.pw_earlystop_k12_whole_rows_come_to_one.main.body.getD i (.Pass ⟨0, 0, 0, 0⟩)
structure Cl where
  NoFraction : Addr
  NOUGHT : Addr
  ONE : Addr
structure Txt (K : PySem.W.Frag) (mg : Str → Option Value) (c : Cl) : Prop where
  b_list : mg "list" = none
  b_len : mg "len" = none
  b_abs : mg "abs" = none
  b_repr : mg "repr" = none
  b_range : mg "range" = none
  b_sum : mg "sum" = none
  b_zip : mg "zip" = none
  b_tuple : mg "tuple" = none
  g_NoFraction : mg "NoFraction" = some (.ref c.NoFraction)
  g_NOUGHT : mg "NOUGHT" = some (.ref c.NOUGHT)
  g_ONE : mg "ONE" = some (.ref c.ONE)
  x_NoFraction : PySem.W.excIn K c.NoFraction mroVE "ValueError.__new__" = true
  e_NoFraction : ExcCls K c.NoFraction
  o_NOUGHT : intsIn K c.NOUGHT [0, 1] = true
  o_ONE : intsIn K c.ONE [1, 1] = true
abbrev s__law_feed : Stmt := (top 26)
theorem sc__law_feed : FnScope ["_law_script"] ["_law_script"] (defScope s__law_feed) := ⟨rfl, rfl, rfl, by decide +kernel, rfl, by decide +kernel, by decide +kernel⟩
abbrev s__law_draw : Stmt := (top 27)
theorem sc__law_draw : FnScope ["_law_feed_here", "_law_many", "_law_found", "_law_cell", "_law_stirred"] ["_law_feed_here", "_law_many"] (defScope s__law_draw) := ⟨rfl, rfl, rfl, by decide +kernel, rfl, by decide +kernel, by decide +kernel⟩
/-! ### the feed -/
structure FeedAt (H : Hp) (p L : Addr) : Prop where
  ex : ∃ (ns : List Int) (i r k : Int), H p = some (.lst [.ref L, .int i, .int r, .int k]) ∧ H L = some (.lst (ns.map V.int)) ∧ 0 ≤ i ∧ 0 ≤ r ∧ 0 ≤ k ∧ k ≤ ns.length ∧ ns.length ≤ 63 ∧ L ≠ p
theorem FeedAt.there {H : Hp} {p L : Addr} (F : FeedAt H p L) : ∃ o, H p = some o := by obtain ⟨ns, i, r, k, h, _⟩ := F.ex; exact ⟨_, h⟩
theorem FeedAt.lst {H : Hp} {p L : Addr} (F : FeedAt H p L) : ∃ xs, H p = some (.lst xs) := by obtain ⟨ns, i, r, k, h, _⟩ := F.ex; exact ⟨_, h⟩
theorem FeedAt.ne {H : Hp} {p L q : Addr} (F : FeedAt H p L) (hq : H q = none) : q ≠ p := fun e => by
  subst e; obtain ⟨o, h⟩ := F.there; rw [h] at hq; cases hq
theorem FeedAt.neL {H : Hp} {p L q : Addr} (F : FeedAt H p L) (hq : H q = none) : q ≠ L := fun e => by
  subst e; obtain ⟨ns, i, r, k, h, h2, _⟩ := F.ex; rw [h2] at hq; cases hq
@[irreducible] def sp_feed (K : PySem.W.Frag) : Sp := fun vs H Q _ => ∃ (a : Addr) (ns : List Int), vs = [.ref a] ∧ SqL K H a (ns.map V.int) ∧ ns.length ≤ 63 ∧ ∀ p L H', FeedAt H' p L → Same H H' → H p = none → H L = none → Q (.ref p) H'
@[irreducible] def sp_draw : Sp := fun vs H Q _ => ∃ (p L : Addr) (m : Int), vs = [.ref p, .int m] ∧ FeedAt H p L ∧ 0 < m ∧ bits m ≤ 9000 ∧ ∀ x H', 0 ≤ x → x < m → FeedAt H' p L → SameBut p H H' → Q (.int x) H'
theorem sp_draw_i {H : Hp} {Q : VK} {E : XK} {p L : Addr} {m : Int} (F : FeedAt H p L) (h : 0 < m) (hb : bits m ≤ 9000) (k : ∀ x H', 0 ≤ x → x < m → FeedAt H' p L → SameBut p H H' → Q (.int x) H') : sp_draw [.ref p, .int m] H Q E := by
  unfold sp_draw; exact ⟨p, L, m, rfl, F, h, hb, k⟩
theorem FeedAt.same {H H' : Hp} {p L : Addr} (F : FeedAt H p L) (s : Same H H') : FeedAt H' p L := by
  obtain ⟨ns, i, r, k, h1, h2, h3⟩ := F.ex
  exact ⟨ns, i, r, k, s _ _ h1, s _ _ h2, h3⟩
theorem FeedAt.but {H H' : Hp} {p L D : Addr} (F : FeedAt H p L) (s : SameBut D H H') (n1 : D ≠ p) (n2 : D ≠ L) : FeedAt H' p L := by
  obtain ⟨ns, i, r, k, h1, h2, h3⟩ := F.ex
  exact ⟨ns, i, r, k, s.at (Ne.symm n1) h1, s.at (Ne.symm n2) h2, h3⟩
theorem sp_feed_i {K : PySem.W.Frag} {H : Hp} {Q : VK} {E : XK} {a : Addr} {ns : List Int} (h : SqL K H a (ns.map V.int)) (hl : ns.length ≤ 63) (k : ∀ p L H', FeedAt H' p L → Same H H' → H p = none → H L = none → Q (.ref p) H') : sp_feed K [.ref a] H Q E := by
  unfold sp_feed; exact ⟨a, ns, rfl, h, hl, k⟩
@[irreducible] def sp_law (K : PySem.W.Frag) : Sp := fun vs H Q _ => ∃ (a : Addr) (ns : List Int), vs = [.ref a] ∧ SqL K H a (ns.map V.int) ∧ ns.length ≤ 63 ∧ ∀ H', Q (.bl true) H'
theorem sp_law_i {K : PySem.W.Frag} {H : Hp} {a : Addr} {ns : List Int} (h : SqL K H a (ns.map V.int)) (hl : ns.length ≤ 63) : sp_law K [.ref a] H (fun v _ => v = .bl true) (fun _ _ _ => False) := by
  unfold sp_law; exact ⟨a, ns, rfl, h, hl, fun _ => rfl⟩
section
variable {P : Program} {w : World} {K : PySem.W.Frag} {mg : Str → Option Value} {base : Heap} {c : Cl}
theorem ok__law_feed {f : Addr} {fd : FuncData} (F : Fun K "_law_feed" "_law_feed" s__law_feed f fd) (T : Txt K mg c) : FnOk P w K mg base CX0 1 f fd ["_law_script"] (sp_feed K) := by
  refine F.okw sc__law_feed (fun vs H Q E h => ?_) (fun cdv A outer s H vs Q E hr h => ?_)
  · unfold sp_feed at h
    obtain ⟨a, ns, rfl, _⟩ := h
    rfl
  · unfold sp_feed at h
    obtain ⟨a, ns, rfl, hS, hl, k⟩ := h
    refine ⟨_, (wss_one (ws_ret (we_lst (wa_k (we_cT call_list_of (by rfl) T.b_list (by decide +kernel) (wa_k (we_slice sl_list (we_v 0) wo_none (wo_some we_int)) wa_nil)) (wa_k we_int (wa_k we_int (wa_k we_int wa_nil))))))), ?_⟩
    refine ⟨_, rfl, _, rfl, a, _, rfl, hS, fun q1 h1 => ?_⟩
    refine ⟨q1, _, rfl, .inl (SqL.of upd_same), fun q2 h2 => ?_⟩
    refine nwL (by show 4 ≤ 64; decide) fun q3 H3 h3 e3 s3 => ?_
    have n21 : q2 ≠ q1 := fun e => by subst e; rw [upd_same] at h2; cases h2
    have e1 : cutV (ns.map V.int) none (some 63) = ns.map V.int := by
      unfold cutV
      have : HT.sIx (ns.map V.int).length (ns.map V.int).length (some 63) = (ns.map V.int).length := by
        rw [show ((63 : Int)) = ((63 : Nat) : Int) from rfl, HT.sIx_nat, List.length_map]; omega
      rw [this, HT.sIx_none, List.drop_zero, Nat.sub_zero]
      exact List.take_of_length_le (Nat.le_refl _)
    have s3' := s3
    rw [e1] at s3
    have hq2 := s3 q2 _ upd_same
    refine k q3 q2 H3 ⟨ns, 0, 0, 0, e3, hq2, Int.le_refl _, Int.le_refl _, Int.le_refl _, by omega, hl, fun e => ?_⟩ (((Same.upd h1).trans (Same.upd h2)).trans s3') ?_ ?_
    · subst e; rw [upd_same] at h3; cases h3
    · exact ((Same.upd h1).trans (Same.upd h2)).free h3
    · exact (Same.upd h1).free h2
theorem ok__law_draw {f : Addr} {fd : FuncData} (F : Fun K "_law_draw" "_law_draw" s__law_draw f fd) (T : Txt K mg c) : FnOk P w K mg base CX0 1 f fd ["_law_feed_here", "_law_many"] sp_draw := by
  refine F.okw sc__law_draw (fun vs H Q E h => ?_) (fun cdv A outer s H vs Q E hr h => ?_)
  · unfold sp_draw at h
    obtain ⟨p, L, m, rfl, _⟩ := h
    rfl
  · unfold sp_draw at h
    obtain ⟨p, L, m, rfl, F, hm, hb, k⟩ := h
    obtain ⟨ns, i, r, j, hp, hL, h0, h1, h2, h3, h4, hne⟩ := F.ex
    refine ⟨_, (wss_cons (ws_asg (we_op op_add (we_ix ix_seq (we_v 0) we_int (fun _ _ => rfl)) we_int) (wg_sub (we_v 0) we_int set_list))
      (wss_cons (ws_while PassesOwn.never (wt_w (ww_and (wt_cmp op_eq (we_ix ix_seq (we_v 0) we_int (fun _ _ => rfl)) we_int (nomark _)) (ww_and1 (wt_cmp op_lt (we_ix ix_seq (we_v 0) we_int (fun _ _ => rfl)) (we_cB cl_len (by rfl) T.b_len (by decide +kernel) (wa_k (we_ix ix_seq (we_v 0) we_int (fun _ _ => rfl)) wa_nil)) (nomark _))))) (wss_cons (ws_cut (ws_if (wt_cmp op_ge (we_cB cl_abs (by rfl) T.b_abs (by decide +kernel) (wa_k (we_ix ix_seq (we_ix ix_seq (we_v 0) we_int (fun _ _ => rfl)) (we_ix ix_seq (we_v 0) we_int (fun _ _ => rfl)) (fun _ _ => rfl)) wa_nil)) (we_op op_pow we_int we_int) (nomark _)) (wss_one (ws_asg (we_cB cl_abs (by rfl) T.b_abs (by decide +kernel) (wa_k (we_ix ix_seq (we_ix ix_seq (we_v 0) we_int (fun _ _ => rfl)) (we_ix ix_seq (we_v 0) we_int (fun _ _ => rfl)) (fun _ _ => rfl)) wa_nil)) (wg_sub (we_v 0) we_int set_list))) wss_nil))
      (wss_one (ws_asg (we_op op_add (we_ix ix_seq (we_v 0) we_int (fun _ _ => rfl)) we_int) (wg_sub (we_v 0) we_int set_list)))))
      (wss_cons (ws_if (wt_cmp op_gt (we_ix ix_seq (we_v 0) we_int (fun _ _ => rfl)) we_int (nomark _)) (wss_cons (ws_set (i := 2) sc__law_draw.nd rfl (Or.inl rfl) (we_op op_mod (we_ix ix_seq (we_v 0) we_int (fun _ _ => rfl)) (we_v 1)))
      (wss_cons (ws_asg (we_op op_fdivB (we_ix ix_seq (we_v 0) we_int (fun _ _ => rfl)) (we_v 1)) (wg_sub (we_v 0) we_int set_list))
      (wss_one (ws_ret (we_v 2))))) wss_nil)
      (wss_cons (ws_set (i := 3) sc__law_draw.nd rfl (Or.inl rfl) we_int)
      (wss_cons (ws_cut (ws_if (wt_cmp op_gt (we_cB cl_len (by rfl) T.b_len (by decide +kernel) (wa_k (we_ix ix_seq (we_v 0) we_int (fun _ _ => rfl)) wa_nil)) we_int (nomark _)) (wss_one (ws_set (i := 3) sc__law_draw.nd rfl (Or.inl rfl) (we_ix ix_seq (we_ix ix_seq (we_v 0) we_int (fun _ _ => rfl)) (we_op op_mod (we_ix ix_seq (we_v 0) we_int (fun _ _ => rfl)) (we_cB cl_len (by rfl) T.b_len (by decide +kernel) (wa_k (we_ix ix_seq (we_v 0) we_int (fun _ _ => rfl)) wa_nil))) (fun _ _ => rfl)))) wss_nil))
      (wss_cons (ws_set (i := 4) sc__law_draw.nd rfl (Or.inl rfl) (we_op op_mod (we_op op_add (we_op op_add (we_op op_mulB (we_op op_mod (we_v 3) we_int) we_int) (we_op op_mulB we_int (we_ix ix_seq (we_v 0) we_int (fun _ _ => rfl)))) we_int) we_int))
      (wss_cons (ws_set (i := 4) sc__law_draw.nd rfl (Or.inl rfl) (we_op op_mod (we_op op_mulB (we_v 4) (we_op op_add (we_v 4) we_int)) we_int))
      (wss_one (ws_ret (we_op op_mod (we_op op_mod (we_op op_mulB (we_v 4) we_int) we_int) (we_v 1))))))))))), ?_⟩
    refine ⟨_, rfl, ?_⟩
    refine ixL hp rfl ?_
    refine ⟨_, _, rfl, rfl, ?_⟩
    refine ⟨_, rfl, ?_⟩
    refine stG hp rfl fun H1 hp1' s1 => ?_
    have hp1 : H1 p = some (.lst [.ref L, .int (i + 1), .int r, .int j]) := hp1'
    clear hp1'
    -- while feed[2] == 0 and feed[3] < len(feed[0])
    refine while_r (fun n σ H' => ∃ r j : Int, σ = [some (.ref p), some (.int m), none, none, none] ∧ H' p = some (.lst [.ref L, .int (i + 1), .int r, .int j]) ∧ 0 ≤ r ∧ 0 ≤ j ∧ j ≤ ns.length ∧ SameBut p H H' ∧ n = ((ns.length : Int) - j).toNat)
      (fun σ H' => ∃ r j : Int, σ = [some (.ref p), some (.int m), none, none, none] ∧ H' p = some (.lst [.ref L, .int (i + 1), .int r, .int j]) ∧ 0 ≤ r ∧ 0 ≤ j ∧ j ≤ ns.length ∧ SameBut p H H')
      _ ⟨r, j, rfl, hp1, h1, h2, h3, s1, rfl⟩ ?_ ?_
    all_goals clear hp h1 h2 h3 hp1 s1
    · rintro n σ H2 ⟨r, j, rfl, hp2, h1, h2, h3, s2, rfl⟩
      have hL2 := s2.at hne hL
      refine ⟨_, rfl, ?_⟩
      refine ixL hp2 rfl ?_
      refine ⟨rfl, _, rfl, ?_⟩
      refine iteD (fun e0 => ?_) (fun e0 => ?_)
      · refine ⟨_, rfl, ?_⟩
        refine ixL hp2 rfl ?_
        refine ⟨_, rfl, ?_⟩
        refine ixL hp2 rfl ?_
        refine rlL hL2 ?_
        refine ⟨_, _, rfl, rfl, _, rfl, ?_⟩
        refine iteD (fun e1 => ?_) (fun e1 => ?_)
        · rw [List.length_map] at e1
          have hj : ∃ z, ns[j.toNat]? = some z := ⟨_, List.getElem?_eq_getElem (by omega)⟩
          obtain ⟨z, hz⟩ := hj
          have hat : atI (ns.map V.int) j = some (.int z) := by
            have := atI_nat (xs := ns.map V.int) (j := j.toNat) (v := V.int z) (by rw [List.getElem?_map, hz]; rfl)
            rwa [Int.toNat_of_nonneg h2] at this
          refine ⟨_, fun _ _ h => h, ?_⟩
          refine ⟨_, rfl, ?_⟩
          refine ixL hp2 rfl ?_
          refine ⟨_, rfl, ?_⟩
          refine ixL hp2 rfl ?_
          refine ixL hL2 hat ?_
          refine raI ?_
          refine ⟨_, _, rfl, rfl, ⟨by decide, by decide, by decide⟩, _, _, rfl, rfl, _, rfl, ?_⟩
          refine iteD (fun e2 => ?_) (fun e2 => ?_)
          · refine ⟨_, rfl, ?_⟩
            refine ixL hp2 rfl ?_
            refine ⟨_, rfl, ?_⟩
            refine ixL hp2 rfl ?_
            refine ixL hL2 hat ?_
            refine raI ?_
            refine ⟨_, rfl, ?_⟩
            refine stG hp2 rfl fun H3 hp3' s3 => ?_
            have hp3 : H3 p = some (.lst [.ref L, .int (i + 1), .int (z.natAbs : Int), .int j]) := hp3'
            refine ⟨_, rfl, ?_⟩
            refine ixL hp3 rfl ?_
            refine ⟨_, _, rfl, rfl, ?_⟩
            refine ⟨_, rfl, ?_⟩
            refine stG hp3 rfl fun H4 hp4' s4 => ?_
            exact ⟨_, by omega, _, j + 1, rfl, hp4', by omega, by omega, by omega, (s2.trans s3).trans s4, rfl⟩
          · refine ⟨_, rfl, ?_⟩
            refine ixL hp2 rfl ?_
            refine ⟨_, _, rfl, rfl, ?_⟩
            refine ⟨_, rfl, ?_⟩
            refine stG hp2 rfl fun H4 hp4' s4 => ?_
            exact ⟨_, by omega, _, j + 1, rfl, hp4', h1, by omega, by omega, s2.trans s4, rfl⟩
        · rw [List.length_map] at e1
          exact ⟨r, j, rfl, hp2, h1, h2, h3, s2⟩
      · refine iteF ?_
        exact ⟨r, j, rfl, hp2, h1, h2, h3, s2⟩
    · rintro σ H2 ⟨r, j, rfl, hp2, h1, h2, h3, s2⟩
      have hL2 := s2.at hne hL
      refine ⟨_, rfl, ?_⟩
      refine ixL hp2 rfl ?_
      refine ⟨_, _, rfl, rfl, _, rfl, ?_⟩
      refine iteD (fun e0 => ?_) (fun e0 => ?_)
      · refine ⟨_, rfl, ?_⟩
        refine ixL hp2 rfl ?_
        refine ⟨_, rfl, _, _, rfl, rfl, hm, ?_⟩
        refine ⟨_, rfl, ?_⟩
        refine ixL hp2 rfl ?_
        refine ⟨_, rfl, _, _, rfl, rfl, ⟨hm, hb⟩, ?_⟩
        refine ⟨_, rfl, ?_⟩
        refine stG hp2 rfl fun H3 hp3 s3 => ?_
        refine ⟨_, rfl, ?_⟩
        exact k _ H3 (Int.emod_nonneg _ (by omega)) (Int.emod_lt_of_pos _ hm) ⟨ns, i + 1, r / m, j, hp3, s3.at hne hL2, by omega, Int.ediv_nonneg h1 (by omega), h2, h3, h4, hne⟩ (s2.trans s3)
      · refine ⟨fun σ H3 => ∃ c : Int, σ = [some (.ref p), some (.int m), none, some (.int c), none] ∧ H3 = H2, ?_, ?_⟩
        · rintro σ H3 ⟨c, rfl, rfl⟩
          have hc := Int.emod_nonneg c (b := 2147483647) (by decide)
          have hc' := Int.emod_lt_of_pos c (b := 2147483647) (by decide)
          refine ⟨_, rfl, _, _, rfl, rfl, (by show (0 : Int) < 2147483647; decide), _, _, rfl, rfl, IntMulOk.of_right (by decide +kernel), ?_⟩
          refine ⟨_, rfl, ?_⟩
          refine ixL hp2 rfl ?_
          refine ⟨_, _, rfl, rfl, IntMulOk.of_left (by decide +kernel), _, _, rfl, rfl, _, _, rfl, rfl, _, _, rfl, rfl, (by show (0 : Int) < 2147483629; decide), ?_⟩
          generalize hz : (c % 2147483647 * 48271 + 7919 * (i + 1) + 12345) % 2147483629 = z
          have z0 : 0 ≤ z := by rw [← hz]; exact Int.emod_nonneg _ (by decide)
          have z1 : z < 2147483629 := by rw [← hz]; exact Int.emod_lt_of_pos _ (by decide)
          refine ⟨_, rfl, _, rfl, _, _, rfl, rfl, _, _, rfl, rfl, IntMulOk.of_left (PySem.intBits_le_64 (by omega) (by omega)), _, _, rfl, rfl, (by show (0 : Int) < 2147483587; decide), ?_⟩
          generalize hy : z * (z + 40692) % 2147483587 = y
          have y0 : 0 ≤ y := by rw [← hy]; exact Int.emod_nonneg _ (by decide)
          have y1 : y < 2147483587 := by rw [← hy]; exact Int.emod_lt_of_pos _ (by decide)
          refine ⟨_, rfl, _, _, rfl, rfl, IntMulOk.of_left (PySem.intBits_le_64 (by omega) (by omega)), _, _, rfl, rfl, (by show (0 : Int) < 2147483563; decide), ?_⟩
          refine ⟨_, rfl, _, _, rfl, rfl, hm, ?_⟩
          exact k _ H3 (Int.emod_nonneg _ (by omega)) (Int.emod_lt_of_pos _ hm) ⟨ns, i + 1, r, j, hp2, hL2, by omega, h1, h2, h3, h4, hne⟩ s2
        · refine ⟨_, rfl, ?_⟩
          refine ixL hp2 rfl ?_
          refine rlL hL2 ?_
          refine ⟨_, _, rfl, rfl, _, rfl, ?_⟩
          refine iteD (fun e1 => ?_) (fun e1 => ?_)
          · rw [List.length_map] at e1
            refine ⟨_, rfl, ?_⟩
            refine ixL hp2 rfl ?_
            refine ⟨_, rfl, ?_⟩
            refine ixL hp2 rfl ?_
            refine ⟨_, rfl, ?_⟩
            refine ixL hp2 rfl ?_
            refine rlL hL2 ?_
            rw [List.length_map]
            refine ⟨_, _, rfl, rfl, e1, ?_⟩
            have g0 := Int.emod_nonneg (i + 1) (b := (ns.length : Int)) (by omega)
            have g1 := Int.emod_lt_of_pos (i + 1) e1
            have hj : ∃ z, ns[((i + 1) % (ns.length : Int)).toNat]? = some z := ⟨_, List.getElem?_eq_getElem (by omega)⟩
            obtain ⟨z, hz⟩ := hj
            have hat : atI (ns.map V.int) ((i + 1) % (ns.length : Int)) = some (.int z) := by
              have := atI_nat (xs := ns.map V.int) (j := ((i + 1) % (ns.length : Int)).toNat) (v := V.int z) (by rw [List.getElem?_map, hz]; rfl)
              rwa [Int.toNat_of_nonneg g0] at this
            refine ixL hL2 hat ?_
            exact ⟨z, rfl, rfl⟩
          · exact ⟨0, rfl, rfl⟩
end
abbrev s_common_divisor : Stmt := (top 4)
theorem sc_common_divisor : FnScope ["number", "above_nought", "divided", "divisor", "rest"] ["number", "above_nought"] (defScope s_common_divisor) := ⟨rfl, rfl, rfl, by decide +kernel, rfl, by decide +kernel, by decide +kernel⟩
abbrev s_plus : Stmt := (top 6)
theorem sc_plus : FnScope ["one", "other", "common", "one_part", "other_part", "upper", "left"] ["one", "other"] (defScope s_plus) := ⟨rfl, rfl, rfl, by decide +kernel, rfl, by decide +kernel, by decide +kernel⟩
abbrev s_times : Stmt := (top 7)
theorem sc_times : FnScope ["one", "other", "first", "second"] ["one", "other"] (defScope s_times) := ⟨rfl, rfl, rfl, by decide +kernel, rfl, by decide +kernel, by decide +kernel⟩
abbrev s_over : Stmt := (top 8)
theorem sc_over : FnScope ["one", "other"] ["one", "other"] (defScope s_over) := ⟨rfl, rfl, rfl, by decide +kernel, rfl, by decide +kernel, by decide +kernel⟩
abbrev s_total : Stmt := (top 9)
theorem sc_total : FnScope ["some", "whole", "one"] ["some"] (defScope s_total) := ⟨rfl, rfl, rfl, by decide +kernel, rfl, by decide +kernel, by decide +kernel⟩
abbrev s_faces_of : Stmt := (top 13)
theorem sc_faces_of : FnScope ["trial"] ["trial"] (defScope s_faces_of) := ⟨rfl, rfl, rfl, by decide +kernel, rfl, by decide +kernel, by decide +kernel⟩
abbrev s_ways_of : Stmt := (top 14)
theorem sc_ways_of : FnScope ["trial"] ["trial"] (defScope s_ways_of) := ⟨rfl, rfl, rfl, by decide +kernel, rfl, by decide +kernel, by decide +kernel⟩
abbrev s_way_shares : Stmt := (top 15)
theorem sc_way_shares : FnScope ["trial", "way"] ["trial", "way"] (defScope s_way_shares) := ⟨rfl, rfl, rfl, by decide +kernel, rfl, by decide +kernel, by decide +kernel⟩
abbrev s_counts_of : Stmt := (top 17)
theorem sc_counts_of : FnScope ["trial", "row"] ["trial", "row"] (defScope s_counts_of) := ⟨rfl, rfl, rfl, by decide +kernel, rfl, by decide +kernel, by decide +kernel⟩
abbrev s_share_of : Stmt := (top 18)
theorem sc_share_of : FnScope ["trial", "way", "row", "shares", "product", "face"] ["trial", "way", "row"] (defScope s_share_of) := ⟨rfl, rfl, rfl, by decide +kernel, rfl, by decide +kernel, by decide +kernel⟩
abbrev s_weight : Stmt := (top 19)
theorem sc_weight : FnScope ["trial", "way", "counts", "product", "share", "count"] ["trial", "way", "counts"] (defScope s_weight) := ⟨rfl, rfl, rfl, by decide +kernel, rfl, by decide +kernel, by decide +kernel⟩
abbrev s_power : Stmt := (top 20)
theorem sc_power : FnScope ["share", "count", "upper", "lower", "step"] ["share", "count"] (defScope s_power) := ⟨rfl, rfl, rfl, by decide +kernel, rfl, by decide +kernel, by decide +kernel⟩
abbrev s_rows_to : Stmt := (top 21)
theorem sc_rows_to : FnScope ["counts", "rows", "placed", "count", "step"] ["counts"] (defScope s_rows_to) := ⟨rfl, rfl, rfl, by decide +kernel, rfl, by decide +kernel, by decide +kernel⟩
abbrev s_all_counts : Stmt := (top 22)
theorem sc_all_counts : FnScope ["faces", "most", "found", "many"] ["faces", "most"] (defScope s_all_counts) := ⟨rfl, rfl, rfl, by decide +kernel, rfl, by decide +kernel, by decide +kernel⟩
abbrev s_counts_that_are : Stmt := (top 23)
theorem sc_counts_that_are : FnScope ["faces", "many", "found", "first"] ["faces", "many"] (defScope s_counts_that_are) := ⟨rfl, rfl, rfl, by decide +kernel, rfl, by decide +kernel, by decide +kernel⟩
abbrev s_ways_behind : Stmt := (top 24)
theorem sc_ways_behind : FnScope ["trial", "mix", "counts", "parts", "whole"] ["trial", "mix", "counts"] (defScope s_ways_behind) := ⟨rfl, rfl, rfl, by decide +kernel, rfl, by decide +kernel, by decide +kernel⟩
abbrev s__law_low : Stmt := (top 28)
theorem sc__law_low : FnScope ["_law_n", "_law_d", "_law_one", "_law_other"] ["_law_n", "_law_d"] (defScope s__law_low) := ⟨rfl, rfl, rfl, by decide +kernel, rfl, by decide +kernel, by decide +kernel⟩
abbrev s__law_shares : Stmt := (top 29)
theorem sc__law_shares : FnScope ["_law_feed_here", "_law_many", "_law_most", "_law_parts"] ["_law_feed_here", "_law_many"] (defScope s__law_shares) := ⟨rfl, rfl, rfl, by decide +kernel, rfl, by decide +kernel, by decide +kernel⟩
abbrev s__law_trial : Stmt := (top 30)
theorem sc__law_trial : FnScope ["_law_feed_here", "_law_pool", "_law_turn", "_law_faces", "_law_ways"] ["_law_feed_here"] (defScope s__law_trial) := ⟨rfl, rfl, rfl, by decide +kernel, rfl, by decide +kernel, by decide +kernel⟩
abbrev s__law_rows : Stmt := (top 31)
theorem sc__law_rows : FnScope ["_law_faces", "_law_many", "_law_found", "_law_k"] ["_law_faces", "_law_many"] (defScope s__law_rows) := ⟨rfl, rfl, rfl, by decide +kernel, rfl, by decide +kernel, by decide +kernel⟩
abbrev s__law_longer : Stmt := (top 32)
theorem sc__law_longer : FnScope ["_law_rows_here", "_law_faces", "_law_found", "_law_row"] ["_law_rows_here", "_law_faces"] (defScope s__law_longer) := ⟨rfl, rfl, rfl, by decide +kernel, rfl, by decide +kernel, by decide +kernel⟩
abbrev s_law : Stmt := (top 33)
theorem sc_law : FnScope ["_law_script", "_law_feed_here", "_law_trial_here", "_law_mix", "_law_faces", "_law_many", "_law_rows_here", "_law_some", "_law_way", "_law_parts", "_law_counts", "_law_found", "_law_shares_here", "_law_shown"] ["_law_script"] (defScope s_law) := ⟨rfl, rfl, rfl, by decide +kernel, rfl, by decide +kernel, by decide +kernel⟩
/-! ### fractions as data -/
abbrev frD (f : Fr) : PyData := .tuple [.int f.1, .int f.2]
theorem frD_at {H : Hp} {f : Fr} {v : V} (h : Rep H (frD f) v) : ∃ a, v = .ref a ∧ H a = some (.tup [.int f.1, .int f.2]) := by
  unfold Rep RepL RepL RepL at h
  obtain ⟨a, _, rfl, h1, x, _, rfl, r1, y, _, rfl, r2, rfl⟩ := h
  cases (show x = V.int f.1 from r1)
  cases (show y = V.int f.2 from r2)
  exact ⟨a, rfl, h1⟩
theorem frD_of {H : Hp} {f : Fr} {a : Addr} (h : H a = some (.tup [.int f.1, .int f.2])) : Rep H (frD f) (.ref a) := Rep.tup h (RepL.cons (Rep.int _) (RepL.cons (Rep.int _) RepL.nil))
theorem frD_flat (f : Fr) : flatD (frD f) = true := rfl
def FrV (K : PySem.W.Frag) (H : Hp) (f : Fr) (x : V) : Prop := ∃ a, x = .ref a ∧ SqT K H a [.int f.1, .int f.2]
theorem FrV.of {K : PySem.W.Frag} {H : Hp} {f : Fr} {x : V} (h : Rep H (frD f) x) : FrV K H f x := by
  obtain ⟨a, e, h⟩ := frD_at h
  exact ⟨a, e, SqT.of h⟩
theorem FrV.new {K : PySem.W.Frag} {H : Hp} {f : Fr} {a : Addr} (h : H a = some (.tup [.int f.1, .int f.2])) : FrV K H f (.ref a) := ⟨a, rfl, SqT.of h⟩
theorem FrV.same {K : PySem.W.Frag} {H H' : Hp} {f : Fr} {x : V} (s : Same H H') (h : FrV K H f x) : FrV K H' f x := by
  obtain ⟨a, e, h⟩ := h
  exact ⟨a, e, h.keep s⟩
def Szf (k : Nat) (f : Fr) : Prop := f.1.natAbs < 2 ^ k ∧ f.2.natAbs < 2 ^ k
@[irreducible] def sp_cd : Sp := fun vs H Q _ => ∃ n d : Int, vs = [.int n, .int d] ∧ 0 < d ∧ Q (.int (Int.gcd n d)) H
theorem sp_cd_i {H : Hp} {Q : VK} {E : XK} {n d : Int} (h : 0 < d) (q : Q (.int (Int.gcd n d)) H) : sp_cd [.int n, .int d] H Q E := by unfold sp_cd; exact ⟨n, d, rfl, h, q⟩
/-- a new fraction -/
def NewF (H : Hp) (Q : VK) (f : Fr) : Prop := ∀ q H', H q = none → H' q = some (.tup [.int f.1, .int f.2]) → Same H H' → Q (.ref q) H'
@[irreducible] def sp_plus (K : PySem.W.Frag) : Sp := fun vs H Q _ => ∃ x y f g, vs = [x, y] ∧ FrV K H f x ∧ FrV K H g y ∧ LowF f ∧ LowF g ∧ Szf 4000 f ∧ Szf 4000 g ∧ NewF H Q (addF f g)
theorem sp_plus_i {K : PySem.W.Frag} {H : Hp} {Q : VK} {E : XK} {x y : V} {f g : Fr} (h1 : FrV K H f x) (h2 : FrV K H g y) (l1 : LowF f) (l2 : LowF g) (z1 : Szf 4000 f) (z2 : Szf 4000 g) (q : NewF H Q (addF f g)) : sp_plus K [x, y] H Q E := by unfold sp_plus; exact ⟨x, y, f, g, rfl, h1, h2, l1, l2, z1, z2, q⟩
@[irreducible] def sp_low : Sp := fun vs H Q _ => ∃ n d : Int, vs = [.int n, .int d] ∧ 0 < d ∧ d.natAbs < 2 ^ 9000 ∧ NewF H Q (lw n d)
theorem sp_low_i {H : Hp} {Q : VK} {E : XK} {n d : Int} (h : 0 < d) (z : d.natAbs < 2 ^ 9000) (q : NewF H Q (lw n d)) : sp_low [.int n, .int d] H Q E := by unfold sp_low; exact ⟨n, d, rfl, h, z, q⟩
theorem gcd_le {n d : Int} (h : 0 < d) : (Int.gcd n d : Int) ≤ d := Int.le_of_dvd h (Int.gcd_dvd_right n d)
theorem gcd_sz {n d : Int} {k : Nat} (h : 0 < d) (z : d.natAbs < 2 ^ k) : (Int.gcd n d : Int).natAbs < 2 ^ k := by
  have := gcd_le (n := n) h
  have := gcd_pos (n := n) h
  omega
theorem divOk {n d : Int} (h : 0 < d) (z : d.natAbs < 2 ^ 9000) : CDivB n d := ⟨h, bitsOf z⟩
theorem sz_mono {i : Int} {n m : Nat} (h : i.natAbs < 2 ^ n) (k : n ≤ m := by decide) : i.natAbs < 2 ^ m := Nat.lt_of_lt_of_le h (Nat.pow_le_pow_right (by decide) k)
theorem sz_div {i j : Int} {n : Nat} (h : i.natAbs < 2 ^ n) (hj : 0 < j) : (i / j).natAbs < 2 ^ n := Nat.lt_of_le_of_lt (by
  have := Int.natAbs_ediv_le_natAbs i j
  exact this) h
theorem sz_mul {i j : Int} {n m : Nat} (h1 : i.natAbs < 2 ^ n) (h2 : j.natAbs < 2 ^ m) : (i * j).natAbs < 2 ^ (n + m) := by
  rw [Int.natAbs_mul, Nat.pow_add]
  exact Nat.mul_lt_mul'' h1 h2
section
variable {P : Program} {w : World} {K : PySem.W.Frag} {mg : Str → Option Value} {base : Heap} {c : Cl}
theorem ok_common_divisor {f : Addr} {fd : FuncData} (F : Fun K "common_divisor" "common_divisor" s_common_divisor f fd) (T : Txt K mg c) : FnOk P w K mg base CX0 1 f fd ["number", "above_nought"] sp_cd := by
  refine F.okw sc_common_divisor (fun vs H Q E h => ?_) (fun cdv A outer s H vs Q E hr h => ?_)
  · unfold sp_cd at h
    obtain ⟨n, d, rfl, _⟩ := h
    rfl
  · unfold sp_cd at h
    obtain ⟨n, d, rfl, hd, q⟩ := h
    refine ⟨_, (wss_cons (ws_set (i := 2) sc_common_divisor.nd rfl (Or.inl rfl) (we_v 0))
      (wss_cons (ws_set (i := 3) sc_common_divisor.nd rfl (Or.inl rfl) (we_v 1))
      (wss_cons (ws_while PassesOwn.never (wt_cmp op_ne (we_v 3) we_int (nomark _)) (wss_cons (ws_set (i := 4) sc_common_divisor.nd rfl (Or.inl rfl) (we_op op_mod (we_v 2) (we_v 3)))
      (wss_cons (ws_set (i := 2) sc_common_divisor.nd rfl (Or.inl rfl) (we_v 3))
      (wss_one (ws_set (i := 3) sc_common_divisor.nd rfl (Or.inl rfl) (we_v 4))))))
      (wss_one (ws_ret (we_v 2)))))), ?_⟩
    refine ⟨_, rfl, _, rfl, ?_⟩
    refine while_r (fun m σ H' => ∃ (a b : Int) (c : Option V), σ = [some (.int n), some (.int d), some (.int a), some (.int b), c] ∧ 0 ≤ b ∧ Int.gcd a b = Int.gcd n d ∧ (b = 0 → 0 < a) ∧ H' = H ∧ m = b.toNat)
      (fun σ H' => ∃ (c : Option V), σ = [some (.int n), some (.int d), some (.int (Int.gcd n d)), some (.int 0), c] ∧ H' = H)
      _ ⟨n, d, none, rfl, by omega, rfl, by omega, rfl, rfl⟩ ?_ ?_
    · rintro m σ H2 ⟨a, b, c, rfl, hb, hg, h0, rfl, rfl⟩
      refine ⟨_, rfl, rfl, _, rfl, ?_⟩
      refine iteDN (fun e => ?_) (fun e => ?_)
      · have hb' : 0 < b := by
          rcases Int.lt_or_eq_of_le hb with h | h
          · exact h
          · exact absurd (congrArg V.int h.symm) e
        refine ⟨_, rfl, _, rfl, _, _, rfl, rfl, hb', _, rfl, _, rfl, ?_⟩
        have e1 := Int.emod_lt_of_pos a hb'
        have e2 := Int.emod_nonneg a (b := b) (by omega)
        exact ⟨_, by omega, b, a % b, _, rfl, e2, by rw [gcd_step, hg], fun _ => hb', rfl, rfl⟩
      · have hb0 : b = 0 := by injection e
        subst hb0
        have ha := h0 rfl
        have e1 := gcd_end ha
        rw [hg] at e1
        rw [e1]
        exact ⟨c, rfl, rfl⟩
    · rintro σ H2 ⟨c, rfl, rfl⟩
      exact ⟨_, rfl, q⟩
theorem ok__law_low {f : Addr} {fd : FuncData} (F : Fun K "_law_low" "_law_low" s__law_low f fd) (T : Txt K mg c) : FnOk P w K mg base CX0 1 f fd ["_law_n", "_law_d"] sp_low := by
  refine F.okw sc__law_low (fun vs H Q E h => ?_) (fun cdv A outer s H vs Q E hr h => ?_)
  · unfold sp_low at h
    obtain ⟨n, d, rfl, _⟩ := h
    rfl
  · unfold sp_low at h
    obtain ⟨n, d, rfl, hd, hz, q⟩ := h
    refine ⟨_, (wss_cons (ws_par (i := 2) (j := 3) rfl sc__law_low.nd rfl rfl (by decide) rfl rfl (wa_k (we_cB cl_abs (by rfl) T.b_abs (by decide +kernel) (wa_k (we_v 0) wa_nil)) (wa_k (we_v 1) wa_nil)) rfl)
      (wss_cons (ws_while PassesOwn.never (wt_cmp op_ne (we_v 3) we_int (nomark _)) (wss_one (ws_par (i := 2) (j := 3) rfl sc__law_low.nd rfl rfl (by decide) rfl rfl (wa_k (we_v 3) (wa_k (we_op op_mod (we_v 2) (we_v 3)) wa_nil)) rfl)))
      (wss_one (ws_ret (we_tup (wa_k (we_op op_fdivB (we_v 0) (we_v 2)) (wa_k (we_op op_fdivB (we_v 1) (we_v 2)) wa_nil))))))), ?_⟩
    refine ⟨_, rfl, ?_⟩
    refine raI ?_
    refine ⟨_, rfl, ?_⟩
    refine ⟨_, _, rfl, ?_⟩
    refine while_r (fun m σ H' => ∃ (u v : Int), σ = [some (.int n), some (.int d), some (.int u), some (.int v)] ∧ 0 ≤ v ∧ Int.gcd u v = Int.gcd n d ∧ (v = 0 → 0 < u) ∧ H' = H ∧ m = v.toNat)
      (fun σ H' => σ = [some (.int n), some (.int d), some (.int (Int.gcd n d)), some (.int 0)] ∧ H' = H)
      _ ⟨(n.natAbs : Int), d, rfl, by omega, by rw [Int.gcd_eq_natAbs_gcd_natAbs, Int.gcd_eq_natAbs_gcd_natAbs, Int.natAbs_natCast], by omega, rfl, rfl⟩ ?_ ?_
    · rintro m σ H2 ⟨u, v, rfl, hb, hg, h0, rfl, rfl⟩
      refine ⟨_, rfl, rfl, _, rfl, ?_⟩
      refine iteDN (fun e => ?_) (fun e => ?_)
      · have hb' : 0 < v := by
          rcases Int.lt_or_eq_of_le hb with h | h
          · exact h
          · exact absurd (congrArg V.int h.symm) e
        refine ⟨_, rfl, _, rfl, _, rfl, _, _, rfl, rfl, hb', _, _, rfl, ?_⟩
        have e1 := Int.emod_lt_of_pos u hb'
        have e2 := Int.emod_nonneg u (b := v) (by omega)
        exact ⟨_, by omega, v, u % v, rfl, e2, by rw [gcd_step, hg], fun _ => hb', rfl, rfl⟩
      · have hb0 : v = 0 := by injection e
        subst hb0
        have hu := h0 rfl
        have e1 := gcd_end hu
        rw [hg] at e1
        rw [e1]
        exact ⟨rfl, rfl⟩
    · rintro σ H2 ⟨rfl, rfl⟩
      have hg := gcd_pos (n := n) hd
      have zg : CDivB n (Int.gcd n d : Int) := divOk hg (gcd_sz hd hz)
      refine ⟨_, rfl, _, rfl, _, _, rfl, rfl, zg, ?_⟩
      refine ⟨_, rfl, _, rfl, _, _, rfl, rfl, zg, ?_⟩
      refine nwT (by show 2 ≤ 64; decide) fun p H3 hp e3 s3 => ?_
      exact q p H3 hp e3 s3
theorem ok_plus {f : Addr} {fd : FuncData} (F : Fun K "plus" "plus" s_plus f fd) (T : Txt K mg c)
    (F_common_divisor : FnC CX0 P w K mg base 1 "common_divisor" ["number", "above_nought"] sp_cd) : FnOk P w K mg base CX0 2 f fd ["one", "other"] (sp_plus K) := by
  refine F.okw sc_plus (fun vs H Q E h => ?_) (fun cdv A outer s H vs Q E hr h => ?_)
  · unfold sp_plus at h
    obtain ⟨x, y, f, g, rfl, _⟩ := h
    rfl
  · unfold sp_plus at h
    obtain ⟨x, y, ⟨a, b⟩, ⟨c, d⟩, rfl, h1, h2, l1, l2, z1, z2, q⟩ := h
    obtain ⟨p1, rfl, e1⟩ := h1
    obtain ⟨p2, rfl, e2⟩ := h2
    have pb : 0 < b := l1.pos
    have pd : 0 < d := l2.pos
    obtain ⟨za, zb⟩ := z1
    obtain ⟨zc, zd⟩ := z2
    dsimp only at za zb zc zd e1 e2
    have hG := gcd_pos (n := b) pd
    have zG := gcd_sz (n := b) pd zd
    have zb' := sz_div zb hG
    have zd' := sz_div zd hG
    have u1 := sz_mul za zd'
    have u2 := sz_mul zc zb'
    have hL := gcd_pos (n := a * (d / (Int.gcd b d : Int)) + c * (b / (Int.gcd b d : Int))) hG
    have zL := gcd_sz (n := a * (d / (Int.gcd b d : Int)) + c * (b / (Int.gcd b d : Int))) hG zG
    have eq : addF (a, b) (c, d) = _ := plus_eq l1 l2
    refine ⟨_, (wss_cons (ws_set (i := 2) sc_plus.nd rfl (Or.inl rfl) (we_fn F_common_divisor (hr.mono (by decide)) (wa_k (we_ix ix_seq (we_v 0) we_int (fun _ _ => rfl)) (wa_k (we_ix ix_seq (we_v 1) we_int (fun _ _ => rfl)) wa_nil))))
      (wss_cons (ws_set (i := 3) sc_plus.nd rfl (Or.inl rfl) (we_op op_fdivB (we_ix ix_seq (we_v 0) we_int (fun _ _ => rfl)) (we_v 2)))
      (wss_cons (ws_set (i := 4) sc_plus.nd rfl (Or.inl rfl) (we_op op_fdivB (we_ix ix_seq (we_v 1) we_int (fun _ _ => rfl)) (we_v 2)))
      (wss_cons (ws_set (i := 5) sc_plus.nd rfl (Or.inl rfl) (we_op op_add (we_op op_mulB (we_ix ix_seq (we_v 0) we_int (fun _ _ => rfl)) (we_v 4)) (we_op op_mulB (we_ix ix_seq (we_v 1) we_int (fun _ _ => rfl)) (we_v 3))))
      (wss_cons (ws_set (i := 6) sc_plus.nd rfl (Or.inl rfl) (we_fn F_common_divisor (hr.mono (by decide)) (wa_k (we_v 5) (wa_k (we_v 2) wa_nil))))
      (wss_one (ws_ret (we_tup (wa_k (we_op op_fdivB (we_v 5) (we_v 6)) (wa_k (we_op op_mulB (we_v 3) (we_op op_fdivB (we_ix ix_seq (we_v 1) we_int (fun _ _ => rfl)) (we_v 6))) wa_nil)))))))))), ?_⟩
    refine ⟨_, rfl, ?_⟩
    refine ixK e1 rfl ?_
    refine ⟨_, rfl, ?_⟩
    refine ixK e2 rfl ?_
    refine sp_cd_i pd ?_
    refine ⟨_, rfl, ?_⟩
    refine ixK e1 rfl ?_
    refine ⟨_, rfl, _, _, rfl, rfl, divOk hG (sz_mono zG), ?_⟩
    refine ⟨_, rfl, ?_⟩
    refine ixK e2 rfl ?_
    refine ⟨_, rfl, _, _, rfl, rfl, divOk hG (sz_mono zG), ?_⟩
    refine ⟨_, rfl, ?_⟩
    refine ixK e1 rfl ?_
    refine ⟨_, rfl, _, _, rfl, rfl, mulB za zd', ?_⟩
    refine ⟨_, rfl, ?_⟩
    refine ixK e2 rfl ?_
    refine ⟨_, rfl, _, _, rfl, rfl, mulB zc zb', _, _, rfl, rfl, ?_⟩
    refine ⟨_, rfl, _, rfl, ?_⟩
    refine sp_cd_i hG ?_
    refine ⟨_, rfl, _, rfl, _, _, rfl, rfl, divOk hL (sz_mono zL), ?_⟩
    refine ⟨_, rfl, _, rfl, ?_⟩
    refine ixK e2 rfl ?_
    refine ⟨_, rfl, _, _, rfl, rfl, divOk hL (sz_mono zL), _, _, rfl, rfl, mulB zb' (sz_div zd hL), ?_⟩
    refine nwT (by show 2 ≤ 64; decide) fun p H3 hp e3 s3 => ?_
    refine q p H3 hp ?_ s3
    rw [eq]
    exact e3
end
end Kw
set_option Elab.async false
set_option linter.all false
set_option maxRecDepth 100000
namespace Kw
open PySem L2 Mf
theorem NewF.of {H H1 : Hp} {Q : VK} {f : Fr} (s : Same H H1) (q : NewF H Q f) : NewF H1 Q f := fun p H' hp e s' => q p H' (s.free hp) e (s.trans s')
@[irreducible] def sp_times (K : PySem.W.Frag) : Sp := fun vs H Q _ => ∃ x y f g, vs = [x, y] ∧ FrV K H f x ∧ FrV K H g y ∧ LowF f ∧ LowF g ∧ Szf 4000 f ∧ Szf 4000 g ∧ NewF H Q (mulF f g)
theorem sp_times_i {K : PySem.W.Frag} {H : Hp} {Q : VK} {E : XK} {x y : V} {f g : Fr} (h1 : FrV K H f x) (h2 : FrV K H g y) (l1 : LowF f) (l2 : LowF g) (z1 : Szf 4000 f) (z2 : Szf 4000 g) (q : NewF H Q (mulF f g)) : sp_times K [x, y] H Q E := by unfold sp_times; exact ⟨x, y, f, g, rfl, h1, h2, l1, l2, z1, z2, q⟩
/-- upside down, below nought both turned -/
def upF (g : Fr) : Fr := if g.1 < 0 then (-g.2, -g.1) else (g.2, g.1)
@[irreducible] def sp_over (K : PySem.W.Frag) (C : Addr) : Sp := fun vs H Q E => ∃ x y f g, vs = [x, y] ∧ FrV K H f x ∧ FrV K H g y ∧ LowF f ∧ LowF g ∧ Szf 4000 f ∧ Szf 4000 g ∧ (g.1 = 0 → E (.ref C) none H) ∧ (g.1 ≠ 0 → NewF H Q (mulF f (upF g)))
theorem sp_over_i {K : PySem.W.Frag} {C : Addr} {H : Hp} {Q : VK} {E : XK} {x y : V} {f g : Fr} (h1 : FrV K H f x) (h2 : FrV K H g y) (l1 : LowF f) (l2 : LowF g) (z1 : Szf 4000 f) (z2 : Szf 4000 g) (e : g.1 = 0 → E (.ref C) none H) (q : g.1 ≠ 0 → NewF H Q (mulF f (upF g))) : sp_over K C [x, y] H Q E := by unfold sp_over; exact ⟨x, y, f, g, rfl, h1, h2, l1, l2, z1, z2, e, q⟩
section
variable {P : Program} {w : World} {K : PySem.W.Frag} {mg : Str → Option Value} {base : Heap} {c : Cl}
theorem ok_times {f : Addr} {fd : FuncData} (F : Fun K "times" "times" s_times f fd) (T : Txt K mg c)
    (F_common_divisor : FnC CX0 P w K mg base 1 "common_divisor" ["number", "above_nought"] sp_cd) : FnOk P w K mg base CX0 2 f fd ["one", "other"] (sp_times K) := by
  refine F.okw sc_times (fun vs H Q E h => ?_) (fun cdv A outer s H vs Q E hr h => ?_)
  · unfold sp_times at h
    obtain ⟨x, y, f, g, rfl, _⟩ := h
    rfl
  · unfold sp_times at h
    obtain ⟨x, y, ⟨a, b⟩, ⟨m, d⟩, rfl, h1, h2, l1, l2, ⟨za, zb⟩, ⟨zc, zd⟩, q⟩ := h
    obtain ⟨p1, rfl, e1⟩ := h1
    obtain ⟨p2, rfl, e2⟩ := h2
    have pb : 0 < b := l1.pos
    have pd : 0 < d := l2.pos
    dsimp only at za zb zc zd e1 e2
    have g1 := gcd_pos (n := a) pd
    have g2 := gcd_pos (n := m) pb
    have y1 := gcd_sz (n := a) pd zd
    have y2 := gcd_sz (n := m) pb zb
    have eq : mulF (a, b) (m, d) = _ := times_eq l1 l2
    refine ⟨_, (wss_cons (ws_set (i := 2) sc_times.nd rfl (Or.inl rfl) (we_fn F_common_divisor (hr.mono (by decide)) (wa_k (we_ix ix_seq (we_v 0) we_int (fun _ _ => rfl)) (wa_k (we_ix ix_seq (we_v 1) we_int (fun _ _ => rfl)) wa_nil))))
      (wss_cons (ws_set (i := 3) sc_times.nd rfl (Or.inl rfl) (we_fn F_common_divisor (hr.mono (by decide)) (wa_k (we_ix ix_seq (we_v 1) we_int (fun _ _ => rfl)) (wa_k (we_ix ix_seq (we_v 0) we_int (fun _ _ => rfl)) wa_nil))))
      (wss_one (ws_ret (we_tup (wa_k (we_op op_mulB (we_op op_fdivB (we_ix ix_seq (we_v 0) we_int (fun _ _ => rfl)) (we_v 2)) (we_op op_fdivB (we_ix ix_seq (we_v 1) we_int (fun _ _ => rfl)) (we_v 3))) (wa_k (we_op op_mulB (we_op op_fdivB (we_ix ix_seq (we_v 0) we_int (fun _ _ => rfl)) (we_v 3)) (we_op op_fdivB (we_ix ix_seq (we_v 1) we_int (fun _ _ => rfl)) (we_v 2))) wa_nil))))))), ?_⟩
    refine ⟨_, rfl, ?_⟩
    refine ixK e1 rfl ?_
    refine ⟨_, rfl, ?_⟩
    refine ixK e2 rfl ?_
    refine sp_cd_i pd ?_
    refine ⟨_, rfl, ?_⟩
    refine ixK e2 rfl ?_
    refine ⟨_, rfl, ?_⟩
    refine ixK e1 rfl ?_
    refine sp_cd_i pb ?_
    refine ⟨_, rfl, ?_⟩
    refine ixK e1 rfl ?_
    refine ⟨_, rfl, _, _, rfl, rfl, divOk g1 (sz_mono y1), ?_⟩
    refine ⟨_, rfl, ?_⟩
    refine ixK e2 rfl ?_
    refine ⟨_, rfl, _, _, rfl, rfl, divOk g2 (sz_mono y2), _, _, rfl, rfl, mulB (sz_div za g1) (sz_div zc g2), ?_⟩
    refine ⟨_, rfl, ?_⟩
    refine ixK e1 rfl ?_
    refine ⟨_, rfl, _, _, rfl, rfl, divOk g2 (sz_mono y2), ?_⟩
    refine ⟨_, rfl, ?_⟩
    refine ixK e2 rfl ?_
    refine ⟨_, rfl, _, _, rfl, rfl, divOk g1 (sz_mono y1), _, _, rfl, rfl, mulB (sz_div zb g2) (sz_div zd g1), ?_⟩
    refine nwT (by show 2 ≤ 64; decide) fun p H3 hp e3 s3 => ?_
    refine q p H3 hp ?_ s3
    rw [eq]
    exact e3
theorem upF_low {g : Fr} (h : LowF g) (n : g.1 ≠ 0) : LowF (upF g) := by
  unfold upF
  by_cases e : g.1 < 0
  · rw [if_pos e]
    exact ⟨by show 0 < -g.1; omega, by show Int.gcd (-g.2) (-g.1) = 1; rw [Int.neg_gcd, Int.gcd_neg, Int.gcd_comm]; exact h.low⟩
  · rw [if_neg e]
    exact ⟨by show 0 < g.1; omega, by show Int.gcd g.2 g.1 = 1; rw [Int.gcd_comm]; exact h.low⟩
theorem upF_sz {g : Fr} {k : Nat} (z : Szf k g) : Szf k (upF g) := by
  unfold upF
  by_cases e : g.1 < 0
  · rw [if_pos e]; exact ⟨by show (-g.2).natAbs < _; rw [Int.natAbs_neg]; exact z.2, by show (-g.1).natAbs < _; rw [Int.natAbs_neg]; exact z.1⟩
  · rw [if_neg e]; exact ⟨z.2, z.1⟩
theorem ok_over {f : Addr} {fd : FuncData} (F : Fun K "over" "over" s_over f fd) (T : Txt K mg c)
    (F_times : FnC CX0 P w K mg base 2 "times" ["one", "other"] (sp_times K)) : FnOk P w K mg base (CX1 P w) 3 f fd ["one", "other"] (sp_over K c.NoFraction) := by
  refine F.okx sc_over (fun vs H Q E h => ?_) (fun cdv A outer s H vs Q E hr h hx hmd => ?_)
  · unfold sp_over at h
    obtain ⟨x, y, f, g, rfl, _⟩ := h
    rfl
  · unfold sp_over at h
    obtain ⟨x, y, f, g, rfl, h1, h2, l1, l2, z1, z2, he, q⟩ := h
    obtain ⟨p2, rfl, e2⟩ := h2
    refine ⟨_, (wss_cons (ws_if (wt_cmp op_eq (we_ix ix_seq (we_v 1) we_int (fun _ _ => rfl)) we_int (nomark _)) (wss_one (ws_raise T.x_NoFraction T.g_NoFraction rfl hmd (wa_k we_str wa_nil))) wss_nil)
      (wss_cons (ws_if (wt_cmp op_lt (we_ix ix_seq (we_v 1) we_int (fun _ _ => rfl)) we_int (nomark _)) (wss_one (ws_ret (we_fn F_times (hr.mono (by decide)) (wa_k (we_v 0) (wa_k (we_tup (wa_k (we_un un_neg (we_ix ix_seq (we_v 1) we_int (fun _ _ => rfl))) (wa_k (we_un un_neg (we_ix ix_seq (we_v 1) we_int (fun _ _ => rfl))) wa_nil))) wa_nil))))) wss_nil)
      (wss_one (ws_ret (we_fn F_times (hr.mono (by decide)) (wa_k (we_v 0) (wa_k (we_tup (wa_k (we_ix ix_seq (we_v 1) we_int (fun _ _ => rfl)) (wa_k (we_ix ix_seq (we_v 1) we_int (fun _ _ => rfl)) wa_nil))) wa_nil))))))), ?_⟩
    refine ⟨_, rfl, ?_⟩
    refine ixK e2 rfl ?_
    refine ⟨rfl, _, rfl, ?_⟩
    refine iteD (fun e => ?_) (fun e => ?_)
    · have e0 : g.1 = 0 := by injection e
      exact ⟨by decide, he e0⟩
    · have d0 : g.1 ≠ 0 := fun z => e (by rw [z])
      have hq := q d0
      refine ⟨_, rfl, ?_⟩
      refine ixK e2 rfl ?_
      refine ⟨_, _, rfl, rfl, _, rfl, ?_⟩
      refine iteD (fun e1 => ?_) (fun e1 => ?_)
      · refine ⟨_, rfl, _, rfl, ?_⟩
        refine ixK e2 rfl ?_
        refine ⟨_, rfl, ?_⟩
        refine ⟨_, rfl, ?_⟩
        refine ixK e2 rfl ?_
        refine ⟨_, rfl, ?_⟩
        refine nwT (by show 2 ≤ 64; decide) fun p H3 hp e3 s3 => ?_
        have eu : upF g = (-g.2, -g.1) := by unfold upF; rw [if_pos e1]
        refine sp_times_i (FrV.same s3 h1) (FrV.new (f := upF g) (by rw [eu]; exact e3)) l1 (upF_low l2 d0) z1 (upF_sz z2) ?_
        exact hq.of s3
      · refine ⟨_, rfl, _, rfl, ?_⟩
        refine ixK e2 rfl ?_
        refine ⟨_, rfl, ?_⟩
        refine ixK e2 rfl ?_
        refine nwT (by show 2 ≤ 64; decide) fun p H3 hp e3 s3 => ?_
        have eu : upF g = (g.2, g.1) := by unfold upF; rw [if_neg e1]
        refine sp_times_i (FrV.same s3 h1) (FrV.new (f := upF g) (by rw [eu]; exact e3)) l1 (upF_low l2 d0) z1 (upF_sz z2) ?_
        exact hq.of s3
end
/-! ### shares and trials that the law draws -/
abbrev shD (fs : List Fr) : PyData := .tuple (fs.map frD)
structure ShOk (n : Nat) (fs : List Fr) : Prop where
  len : fs.length = n
  low : ∀ f ∈ fs, LowF f
  pos : ∀ f ∈ fs, 0 ≤ f.1
  le : ∀ f ∈ fs, f.1 ≤ f.2
  dn : ∀ f ∈ fs, f.2 ≤ 1000
  one : totF fs = (1, 1)
abbrev wD (w : Str × List Fr) : PyData := .tuple [.str w.1, shD w.2]
abbrev trD (fs : List Str) (ws : List (Str × List Fr)) : PyData := .tuple [.tuple (fs.map .str), .tuple (ws.map wD)]
def pool : List Str := ["a", "ab", "ways", "onto", "abc", "sayer", "ruler", "b", "prices", "worthy", "nones", "zzzzzzzz"]
def rot (t : Nat) : List Str := pool.drop t ++ pool.take t
structure TrOk (t o F W : Nat) (fs : List Str) (ws : List (Str × List Fr)) : Prop where
  ht : t < 12
  ho : o = 0 ∨ o = 2 ∨ o = 5
  hF : F = 2 ∨ F = 3 ∨ F = 4
  hW : W = 2 ∨ W = 3 ∨ W = 4
  hfs : fs = (rot t).take F
  hns : ws.map (·.1) = ((rot t).drop o).take W
  sh : ∀ w ∈ ws, ShOk F w.2
theorem rot_len {t : Nat} (h : t < 12) : (rot t).length = 12 := by
  unfold rot
  rw [List.length_append, List.length_drop, List.length_take]
  show 12 - t + min t 12 = 12
  omega
theorem TrOk.lenF {t o F W : Nat} {fs : List Str} {ws : List (Str × List Fr)} (h : TrOk t o F W fs ws) : fs.length = F := by
  rw [h.hfs, List.length_take, rot_len h.ht]
  have := h.hF
  omega
theorem TrOk.lenW {t o F W : Nat} {fs : List Str} {ws : List (Str × List Fr)} (h : TrOk t o F W fs ws) : ws.length = W := by
  have e := congrArg List.length h.hns
  rw [List.length_map, List.length_take, List.length_drop, rot_len h.ht] at e
  have := h.hW
  have := h.ho
  omega
theorem frs_flat : ∀ fs : List Fr, flatDs (fs.map frD) = true
  | [] => rfl
  | f :: fs => by show (flatD (frD f) && flatDs (fs.map frD)) = true; rw [frs_flat fs]; rfl
theorem strs_flat : ∀ fs : List Str, flatDs (fs.map PyData.str) = true
  | [] => rfl
  | f :: fs => by show (flatD (.str f) && flatDs (fs.map PyData.str)) = true; rw [strs_flat fs]; rfl
theorem shD_flat (fs : List Fr) : flatD (shD fs) = true := frs_flat fs
theorem wD_flat (w : Str × List Fr) : flatD (wD w) = true := by
  show (flatD (.str w.1) && (flatD (shD w.2) && true)) = true
  rw [shD_flat]; rfl
theorem ws_flat : ∀ ws : List (Str × List Fr), flatDs (ws.map wD) = true
  | [] => rfl
  | w :: ws => by show (flatD (wD w) && flatDs (ws.map wD)) = true; rw [wD_flat w, ws_flat ws]; rfl
theorem trD_flat (fs : List Str) (ws : List (Str × List Fr)) : flatD (trD fs ws) = true := by
  show (flatD (.tuple (fs.map .str)) && (flatD (.tuple (ws.map wD)) && true)) = true
  rw [show flatD (.tuple (fs.map PyData.str)) = flatDs (fs.map PyData.str) from rfl, strs_flat, show flatD (.tuple (ws.map wD)) = flatDs (ws.map wD) from rfl, ws_flat]; rfl
theorem FeedAt.like (p L : Addr) : FeedLike p L (fun H => FeedAt H p L) :=
  ⟨fun D H1 H2 n1 n2 s F => F.but s n1 n2, fun H1 H2 s F => F.same s, fun H' F => F.lst, fun H' D F h => ⟨F.ne h, F.neL h⟩⟩
theorem RepL_strs {H : Hp} : ∀ fs : List Str, RepL H (fs.map PyData.str) (fs.map V.str)
  | [] => RepL.nil
  | f :: fs => RepL.cons (Rep.str f) (RepL_strs fs)
/-- a tuple as data -/
theorem tup_at {H : Hp} {ds : List PyData} {v : V} (h : Rep H (.tuple ds) v) : ∃ a xs, v = .ref a ∧ H a = some (.tup xs) ∧ RepL H ds xs := by unfold Rep at h; exact h
theorem RepL_two {H : Hp} {d e : PyData} {xs : List V} (h : RepL H [d, e] xs) : ∃ x y, xs = [x, y] ∧ Rep H d x ∧ Rep H e y := by
  unfold RepL RepL RepL at h
  obtain ⟨x, _, rfl, h1, y, _, rfl, h2, rfl⟩ := h
  exact ⟨x, y, rfl, h1, h2⟩
theorem reps_get {α : Type} {H : Hp} {g : α → PyData} {fs : List α} {vs : List V} (h : RepL H (fs.map g) vs) {i : Nat} {v : V} (e : vs[i]? = some v) : ∃ f, fs[i]? = some f ∧ Rep H (g f) v := by
  obtain ⟨d, h1, h2⟩ := h.get e
  rw [List.getElem?_map] at h1
  cases q : fs[i]? with
  | none => rw [q] at h1; cases h1
  | some f => rw [q] at h1; cases h1; exact ⟨f, rfl, h2⟩
theorem reps_get' {α : Type} {H : Hp} {g : α → PyData} {fs : List α} {vs : List V} (h : RepL H (fs.map g) vs) {i : Nat} {f : α} (e : fs[i]? = some f) : ∃ v, vs[i]? = some v ∧ Rep H (g f) v :=
  h.get' (by rw [List.getElem?_map, e]; rfl)
theorem reps_len {α : Type} {H : Hp} {g : α → PyData} {fs : List α} {vs : List V} (h : RepL H (fs.map g) vs) : vs.length = fs.length := by rw [h.len, List.length_map]
theorem take_snoc {α : Type} {l : List α} {i : Nat} {x : α} (h : l[i]? = some x) : l.take (i + 1) = l.take i ++ [x] := by
  rw [List.take_add_one, h]; rfl
@[irreducible] def sp_shares : Sp := fun vs H Q _ => ∃ (p L : Addr) (m : Nat), vs = [.ref p, .int (m : Int)] ∧ FeedAt H p L ∧ 0 < m ∧ m ≤ 4 ∧ ∀ v fs H', FeedAt H' p L → SameBut p H H' → Rep H' (shD fs) v → ShOk m fs → Q v H'
theorem sp_shares_i {H : Hp} {Q : VK} {E : XK} {p L : Addr} {m : Nat} (F : FeedAt H p L) (h0 : 0 < m) (h1 : m ≤ 4) (k : ∀ v fs H', FeedAt H' p L → SameBut p H H' → Rep H' (shD fs) v → ShOk m fs → Q v H') : sp_shares [.ref p, .int (m : Int)] H Q E := by unfold sp_shares; exact ⟨p, L, m, rfl, F, h0, h1, k⟩
@[irreducible] def sp_trial : Sp := fun vs H Q _ => ∃ (p L : Addr), vs = [.ref p] ∧ FeedAt H p L ∧ ∀ v t o F W fs ws H', FeedAt H' p L → SameBut p H H' → Rep H' (trD fs ws) v → TrOk t o F W fs ws → Q v H'
theorem sp_trial_i {H : Hp} {Q : VK} {E : XK} {p L : Addr} (F : FeedAt H p L) (k : ∀ v t o F W fs ws H', FeedAt H' p L → SameBut p H H' → Rep H' (trD fs ws) v → TrOk t o F W fs ws → Q v H') : sp_trial [.ref p] H Q E := by unfold sp_trial; exact ⟨p, L, rfl, F, k⟩
theorem sum_nonneg : ∀ {ns : List Int}, (∀ n ∈ ns, 0 ≤ n) → 0 ≤ ns.sum
  | [], _ => by decide
  | n :: ns, h => by
    have := sum_nonneg fun m hm => h m (List.mem_cons_of_mem _ hm)
    have := h n (by simp)
    rw [List.sum_cons]; omega
theorem sum_mem {n : Int} : ∀ {ns : List Int}, (∀ n ∈ ns, 0 ≤ n) → n ∈ ns → n ≤ ns.sum
  | m :: ns, h, hn => by
    have h1 := sum_nonneg fun m hm => h m (List.mem_cons_of_mem _ hm)
    have h2 := h m (by simp)
    rw [List.sum_cons]
    rcases List.mem_cons.mp hn with rfl | hn
    · omega
    · have := sum_mem (fun m hm => h m (List.mem_cons_of_mem _ hm)) hn
      omega
theorem sum_le {B : Nat} : ∀ {ns : List Int}, (∀ n ∈ ns, n ≤ B) → ns.sum ≤ B * ns.length
  | [], _ => by simp
  | n :: ns, h => by
    have h1 := sum_le fun m hm => h m (List.mem_cons_of_mem _ hm)
    have h2 := h n (by simp)
    rw [List.sum_cons, List.length_cons]
    have : (B : Int) * ((ns.length + 1 : Nat) : Int) = B * ns.length + B := by rw [Int.natCast_add, Int.mul_add]; simp
    omega
theorem parts_ok {ns : List Int} (h0 : ∀ n ∈ ns, 0 ≤ n) (h1 : ∀ n ∈ ns, n ≤ 200) (hp : ∃ n ∈ ns, 0 < n) (hl : ns.length ≤ 4) : 0 < ns.sum ∧ ns.sum ≤ 800 ∧ ShOk ns.length (ns.map fun n => lw n ns.sum) := by
  obtain ⟨n, hn, pn⟩ := hp
  have a1 := sum_mem h0 hn
  have a2 := sum_le (B := 200) h1
  have hS : 0 < ns.sum := by omega
  refine ⟨hS, by omega, by rw [List.length_map], fun f hf => ?_, fun f hf => ?_, fun f hf => ?_, fun f hf => ?_, ?_⟩
  · obtain ⟨m, hm, rfl⟩ := List.mem_map.mp hf
    exact lw_low hS
  · obtain ⟨m, hm, rfl⟩ := List.mem_map.mp hf
    exact Int.ediv_nonneg (h0 m hm) (by omega)
  · obtain ⟨m, hm, rfl⟩ := List.mem_map.mp hf
    have c := lw_cross (n := m) (d := ns.sum)
    have p := (lw_low (n := m) hS).pos
    have b := sum_mem h0 hm
    refine Int.le_of_mul_le_mul_right (a := ns.sum) ?_ hS
    rw [c, Int.mul_comm]
    exact Int.mul_le_mul_of_nonneg_left b (by omega)
  · obtain ⟨m, hm, rfl⟩ := List.mem_map.mp hf
    have := (lw_le (n := m) hS).1
    omega
  · rw [tot_parts hS, lw_one hS]
section
variable {P : Program} {w : World} {K : PySem.W.Frag} {mg : Str → Option Value} {base : Heap} {c : Cl}
set_option maxHeartbeats 4000000 in
theorem ok__law_shares {f : Addr} {fd : FuncData} (F : Fun K "_law_shares" "_law_shares" s__law_shares f fd) (T : Txt K mg c)
    (F__law_draw : FnC CX0 P w K mg base 1 "_law_draw" ["_law_feed_here", "_law_many"] sp_draw) (F__law_low : FnC CX0 P w K mg base 1 "_law_low" ["_law_n", "_law_d"] sp_low) : FnOk P w K mg base CX0 2 f fd ["_law_feed_here", "_law_many"] sp_shares := by
  refine F.okw sc__law_shares (fun vs H Q E h => ?_) (fun cdv A outer s H vs Q E hr h => ?_)
  · unfold sp_shares at h
    obtain ⟨p, L, m, rfl, _⟩ := h
    rfl
  · unfold sp_shares at h
    obtain ⟨p, L, m, rfl, F, m0, m4, k⟩ := h
    have bm : bits (m : Int) ≤ 9000 := bitsOf (n := 9000) (Nat.lt_of_lt_of_le (show (m : Int).natAbs < 2 ^ 6 by show (m : Int).natAbs < 64; omega) (Nat.pow_le_pow_right (by decide) (by decide)))
    refine ⟨_, (wss_cons (ws_set (i := 2) sc__law_shares.nd rfl (Or.inr rfl) (we_ix ix_seq (we_lst (wa_k we_int (wa_k we_int (wa_k we_int wa_nil)))) (we_fn F__law_draw (hr.mono (by decide)) (wa_k (we_v 0) (wa_k we_int wa_nil))) (fun _ _ => rfl)))
      (wss_cons (ws_set (i := 3) sc__law_shares.nd rfl (Or.inr rfl) (we_comp (CScope.of (psc := defScope s__law_shares) (N := ["_law_feed_here", "_law_many", "_law_most", "_law_parts"]) (N' := ["_law_k", "_law_feed_here", "_law_most"]) (js := [0, 2]) (by decide +kernel) rfl rfl rfl) (wi_range1 rfl T.b_range (wa_k (we_v 1) wa_nil)) (fun _ _ _ _ => wts_nil) (fun _ _ _ _ => (we_op op_mulB (we_fn F__law_draw (hr.mono (by decide)) (wa_k (we_v 1) (wa_k (we_v 2) wa_nil))) (we_fn F__law_draw (hr.mono (by decide)) (wa_k (we_v 1) (wa_k we_int wa_nil)))))))
      (wss_cons (ws_set (i := 3) sc__law_shares.nd rfl (Or.inr rfl) (we_comp (CScope.of (psc := defScope s__law_shares) (N := ["_law_feed_here", "_law_many", "_law_most", "_law_parts"]) (N' := ["_law_part", "_law_most"]) (js := [2]) (by decide +kernel) rfl rfl rfl) (wi_list (we_v 3)) (fun _ _ _ _ => wts_nil) (fun _ _ _ _ => (we_op op_mod (we_v 0) (we_op op_add (we_v 1) we_int)))))
      (wss_cons (ws_asg (we_op op_add we_int (we_fn F__law_draw (hr.mono (by decide)) (wa_k (we_v 0) (wa_k (we_v 2) wa_nil)))) (wg_sub (we_v 3) (we_fn F__law_draw (hr.mono (by decide)) (wa_k (we_v 0) (wa_k (we_v 1) wa_nil))) set_list))
      (wss_one (ws_ret (we_cT call_tuple_of (by rfl) T.b_tuple (by decide +kernel) (wa_k (we_comp (CScope.of (psc := defScope s__law_shares) (N := ["_law_feed_here", "_law_many", "_law_most", "_law_parts"]) (N' := ["_law_part", "_law_parts"]) (js := [3]) (by decide +kernel) rfl rfl rfl) (wi_list (we_v 3)) (fun _ _ _ _ => wts_nil) (fun _ _ _ _ => (we_fn F__law_low (hr.mono (by decide)) (wa_k (we_v 0) (wa_k (we_cB (cl_sumK K rfl) (by rfl) T.b_sum (by decide +kernel) (wa_k (we_v 1) wa_nil)) wa_nil))))) wa_nil)))))))), ?_⟩
    refine nwL (by show 3 ≤ 64; decide) fun q1 H1 hq1 e1 s1 => ?_
    refine ⟨_, rfl, ?_⟩
    refine sp_draw_i (F.same s1) (by decide) (by decide +kernel) fun x H2 x0 x1 F2 s2 => ?_
    obtain ⟨v, hat, hmem, _⟩ := atI_mem (xs := [V.int 6, V.int 6, V.int 200]) x0 x1
    refine ixL (s2.at (F.ne hq1) e1) hat ?_
    have hv : ∃ M : Int, v = .int M ∧ 0 < M ∧ M ≤ 200 ∧ bits M ≤ 9000 := by
      simp only [List.mem_cons, List.not_mem_nil, or_false] at hmem
      rcases hmem with rfl | rfl | rfl <;> exact ⟨_, rfl, by decide, by decide, by decide +kernel⟩
    obtain ⟨M, rfl, M0, M1, bM⟩ := hv
    have S2 := s1.but.trans s2
    -- the parts, drawn
    refine ⟨_, rfl, _, rfl, by omega, by omega, ?_⟩
    refine comp_fdR (FeedAt.like p L) F2 (fun _ y _ => ∃ n, y = .int n ∧ 0 ≤ n) (fun _ _ _ _ _ h => h) (by omega) (fun i H' Q' hi F' s' k' => ?_) (fun D ys H3 hD hD3 F3 s3 hy hr3 => ?_)
    · refine ⟨_, rfl, _, rfl, ?_⟩
      refine sp_draw_i F' M0 bM fun a H4 a0 a1 F4 s4 => ?_
      refine ⟨_, rfl, ?_⟩
      refine sp_draw_i F4 (by decide) (by decide +kernel) fun b H5 b0 b1 F5 s5 => ?_
      refine ⟨_, _, rfl, rfl, IntMulOk.of_left (PySem.intBits_le_64 (by omega) (by omega)), ?_⟩
      exact k' _ H5 F5 (s4.trans s5) ⟨_, rfl, Int.mul_nonneg a0 b0⟩
    · obtain ⟨ns, rfl, hn⟩ := ints_of (P := fun _ n => 0 ≤ n) hr3
      have npD := F2.ne hD
      -- .. made small
      refine ⟨_, rfl, D, rfl, ⟨_, SqL.of hD3⟩, ?_⟩
      refine comp_mapL (fun _ y _ => ∃ n, y = .int n ∧ 0 ≤ n ∧ n ≤ 200) (fun _ _ _ _ _ h => h) (by rw [hy]; omega) hD3 (fun i x H' Q' hx s' k' => ?_) (fun D2 ys H4 hD2 hD4 s4 hy4 hr4 => ?_)
      · rw [List.getElem?_map] at hx
        obtain ⟨n, hn', rfl⟩ := (show ∃ n, ns[i]? = some n ∧ V.int n = x by
          cases q : ns[i]? with
          | none => rw [q] at hx; cases hx
          | some n => rw [q] at hx; cases hx; exact ⟨n, rfl, rfl⟩)
        refine ⟨_, rfl, _, rfl, _, _, rfl, rfl, _, _, rfl, rfl, (by show 0 < M + 1; omega), ?_⟩
        have c0 := Int.emod_nonneg n (b := M + 1) (by omega)
        have c1 := Int.emod_lt_of_pos n (b := M + 1) (by omega)
        exact k' _ H' (Same.refl _) ⟨_, rfl, c0, by omega⟩
      · obtain ⟨ms, rfl, hm⟩ := ints_of (P := fun _ n => 0 ≤ n ∧ n ≤ 200) hr4
        have F4 := F3.same s4
        have lms : ms.length = m := by
          rw [List.length_map] at hy4 hy
          rw [List.length_map] at hy4
          omega
        have np2 := F3.ne hD2
        refine ⟨_, rfl, _, rfl, ?_⟩
        refine sp_draw_i F4 M0 bM fun a H5 a0 a1 F5 s5 => ?_
        refine ⟨_, _, rfl, rfl, ?_⟩
        refine ⟨_, rfl, _, rfl, _, rfl, ?_⟩
        refine sp_draw_i F5 (by omega) bm fun b H6 b0 b1 F6 s6 => ?_
        have hD6 := s6.at np2 (s5.at np2 hD4)
        have hj : ixN (ms.map V.int).length b = some b.toNat := by
          unfold ixN
          rw [if_pos b0, if_pos (by rw [List.length_map]; omega)]
        refine stG hD6 hj fun H7 e7 s7 => ?_
        rw [← List.map_set] at e7
        have nL2 := F3.neL hD2
        have F7 := F6.but s7 np2 nL2
        have hb : b.toNat < ms.length := by omega
        obtain ⟨hS, hS8, okS⟩ := parts_ok (ns := ms.set b.toNat (1 + a))
          (fun n hn => by
            rcases List.mem_or_eq_of_mem_set hn with h | rfl
            · obtain ⟨i, hi⟩ := List.mem_iff_getElem?.mp h
              exact (hm i n hi).1
            · omega)
          (fun n hn => by
            rcases List.mem_or_eq_of_mem_set hn with h | rfl
            · obtain ⟨i, hi⟩ := List.mem_iff_getElem?.mp h
              exact (hm i n hi).2
            · omega)
          ⟨1 + a, List.mem_iff_getElem?.mpr ⟨b.toNat, by rw [List.getElem?_set_self hb]⟩, by omega⟩ (by rw [List.length_set]; omega)
        have lt : (ms.set b.toNat (1 + a)).length = m := by rw [List.length_set]; exact lms
        generalize ms.set b.toNat (1 + a) = zs at *
        have SF : SameBut p H H7 := by
          refine SameBut.thru ?_ (((S2.trans s3).trans s4.but).trans (s5.trans s6)) s7
          exact SameBut.free (p := p) (S2.trans s3) F3.there hD2
        refine ⟨_, rfl, D2, rfl, ⟨_, SqL.of e7⟩, ?_⟩
        refine comp_mapL (fun i y H' => ∃ n, zs[i]? = some n ∧ Rep H' (frD (lw n zs.sum)) y) (fun i y H1 H2 s ⟨n, h1, h2⟩ => ⟨n, h1, h2.flat s (frD_flat _)⟩) (by rw [List.length_map]; omega) e7 (fun i x H' Q' hx s' k' => ?_) (fun D3 ys H8 hD3 hD8 s8 hy8 hr8 => ?_)
        · rw [List.getElem?_map] at hx
          obtain ⟨n, hn', rfl⟩ := (show ∃ n, zs[i]? = some n ∧ V.int n = x by
            cases q : zs[i]? with
            | none => rw [q] at hx; cases hx
            | some n => rw [q] at hx; cases hx; exact ⟨n, rfl, rfl⟩)
          refine ⟨_, rfl, _, rfl, ?_⟩
          refine rsI (SqL.of (s' _ _ e7)) ?_
          refine sp_low_i hS (Nat.lt_of_lt_of_le (show zs.sum.natAbs < 2 ^ 10 by show zs.sum.natAbs < 1024; omega) (Nat.pow_le_pow_right (by decide) (by decide))) ?_
          intro q9 H9 hq9 e9 s9
          exact k' _ H9 s9 ⟨n, hn', frD_of e9⟩
        · refine ⟨D3, ys, rfl, .inl ⟨SqL.of hD8, fun l hl => ?_⟩⟩
          have sl := Same.upd (o := .tup ys) hl
          have el : (upd H8 l (.tup ys)) l = some (.tup ys) := upd_same
          generalize upd H8 l (.tup ys) = H9 at sl el
          refine k _ (zs.map fun n => lw n zs.sum) H9 ((F7.same s8).same sl) (SF.trans (s8.trans sl).but) (Rep.tup el ?_) (lt ▸ okS)
          refine RepL.ofIdx (by rw [hy8, List.length_map, List.length_map, List.length_map]) fun i y hi => ?_
          obtain ⟨n, h1, h2⟩ := hr8 i y hi
          exact ⟨frD (lw n zs.sum), by rw [List.getElem?_map, List.getElem?_map, h1]; rfl, h2.same sl⟩
theorem nat_of {x : Int} (h : 0 ≤ x) : ∃ t : Nat, x = (t : Int) := ⟨x.toNat, by omega⟩
set_option maxHeartbeats 4000000 in
theorem ok__law_trial {f : Addr} {fd : FuncData} (F : Fun K "_law_trial" "_law_trial" s__law_trial f fd) (T : Txt K mg c)
    (F__law_draw : FnC CX0 P w K mg base 1 "_law_draw" ["_law_feed_here", "_law_many"] sp_draw) (F__law_shares : FnC CX0 P w K mg base 2 "_law_shares" ["_law_feed_here", "_law_many"] sp_shares) : FnOk P w K mg base CX0 3 f fd ["_law_feed_here"] sp_trial := by
  refine F.okw sc__law_trial (fun vs H Q E h => ?_) (fun cdv A outer s H vs Q E hr h => ?_)
  · unfold sp_trial at h
    obtain ⟨p, L, rfl, _⟩ := h
    rfl
  · unfold sp_trial at h
    obtain ⟨p, L, rfl, F, k⟩ := h
    refine ⟨_, (wss_cons (ws_set (i := 1) sc__law_trial.nd rfl (Or.inl rfl) (we_lst (wa_k we_str (wa_k we_str (wa_k we_str (wa_k we_str (wa_k we_str (wa_k we_str (wa_k we_str (wa_k we_str (wa_k we_str (wa_k we_str (wa_k we_str (wa_k we_str wa_nil))))))))))))))
      (wss_cons (ws_set (i := 2) sc__law_trial.nd rfl (Or.inl rfl) (we_fn F__law_draw (hr.mono (by decide)) (wa_k (we_v 0) (wa_k we_int wa_nil))))
      (wss_cons (ws_set (i := 1) sc__law_trial.nd rfl (Or.inl rfl) (we_op op_cat (we_slice (sl_listN K) (we_v 1) (wo_some (we_v 2)) wo_none) (we_slice (sl_listN K) (we_v 1) wo_none (wo_some (we_v 2)))))
      (wss_cons (ws_set (i := 3) sc__law_trial.nd rfl (Or.inr rfl) (we_slice (sl_listN K) (we_v 1) wo_none (wo_some (we_ix ix_seq (we_lst (wa_k we_int (wa_k we_int (wa_k we_int (wa_k we_int wa_nil))))) (we_fn F__law_draw (hr.mono (by decide)) (wa_k (we_v 0) (wa_k we_int wa_nil))) (fun _ _ => rfl)))))
      (wss_cons (ws_set (i := 4) sc__law_trial.nd rfl (Or.inl rfl) (we_slice (sl_listN K) (we_slice (sl_listN K) (we_v 1) (wo_some (we_ix ix_seq (we_lst (wa_k we_int (wa_k we_int (wa_k we_int wa_nil)))) (we_fn F__law_draw (hr.mono (by decide)) (wa_k (we_v 0) (wa_k we_int wa_nil))) (fun _ _ => rfl))) wo_none) wo_none (wo_some (we_ix ix_seq (we_lst (wa_k we_int (wa_k we_int (wa_k we_int (wa_k we_int wa_nil))))) (we_fn F__law_draw (hr.mono (by decide)) (wa_k (we_v 0) (wa_k we_int wa_nil))) (fun _ _ => rfl)))))
      (wss_one (ws_ret (we_tup (wa_k (we_cT call_tuple_of (by rfl) T.b_tuple (by decide +kernel) (wa_k (we_v 3) wa_nil)) (wa_k (we_cT call_tuple_of (by rfl) T.b_tuple (by decide +kernel) (wa_k (we_comp (CScope.of (psc := defScope s__law_trial) (N := ["_law_feed_here", "_law_pool", "_law_turn", "_law_faces", "_law_ways"]) (N' := ["_law_name", "_law_feed_here", "_law_faces"]) (js := [0, 3]) (by decide +kernel) rfl rfl rfl) (wi_list (we_v 4)) (fun _ _ _ _ => wts_nil) (fun _ _ _ _ => (we_tup (wa_k (we_v 0) (wa_k (we_fn F__law_shares (hr.mono (by decide)) (wa_k (we_v 1) (wa_k (we_cB (cl_lenK K) (by rfl) T.b_len (by decide +kernel) (wa_k (we_v 2) wa_nil)) wa_nil))) wa_nil))))) wa_nil)) wa_nil)))))))))), ?_⟩
    refine nwL (by show 12 ≤ 64; decide) fun q1 H1 hq1 e1 s1 => ?_
    have e1' : H1 q1 = some (.lst (pool.map V.str)) := e1
    refine ⟨_, rfl, ?_⟩
    refine sp_draw_i (F.same s1) (by decide) (by decide +kernel) fun x H2 x0 x1 F2 s2 => ?_
    obtain ⟨t, rfl⟩ := nat_of x0
    have e2 := s2.at (F.ne hq1) e1'
    have S2 : SameBut p H H2 := s1.but.trans s2
    -- turned about
    refine ⟨_, rfl, _, rfl, _, rfl, ?_⟩
    refine slL e2 (ys := (pool.drop t).map V.str) (by rw [cutV_lo, List.map_drop]) fun q3 H3 hq3 e3 s3 => ?_
    refine ⟨_, rfl, _, rfl, _, rfl, ?_⟩
    refine slL (s3 _ _ e2) (ys := (pool.take t).map V.str) (by rw [cutV_hi, List.map_take]) fun q4 H4 hq4 e4 s4 => ?_
    have hp12 : pool.length = 12 := rfl
    refine catL (s4 _ _ e3) e4 (by rw [List.length_map, List.length_map, List.length_drop, List.length_take]; omega) fun q5 H5 hq5 e5 s5 => ?_
    have e5' : H5 q5 = some (.lst ((rot t).map V.str)) := by rw [e5]; unfold rot; rw [List.map_append]
    have ht : t < 12 := by omega
    have S5 : SameBut p H H5 := S2.trans ((s3.trans s4).trans s5).but
    have F5 := ((F2.same s3).same s4).same s5
    have n5 : q5 ≠ p := ((F2.same s3).same s4).ne hq5
    clear e1 e1' e2 e3 e4 e5 s3 s4 s5 hq3 hq4 hq1 s1 s2
    -- the faces
    refine ⟨_, rfl, ?_⟩
    refine nwL (by show 4 ≤ 64; decide) fun q6 H6 hq6 e6 s6 => ?_
    refine ⟨_, rfl, ?_⟩
    refine sp_draw_i (F5.same s6) (by decide) (by decide +kernel) fun y H7 y0 y1 F7 s7 => ?_
    obtain ⟨v, hat, hmem, _⟩ := atI_mem (xs := [V.int 2, V.int 2, V.int 3, V.int 4]) y0 y1
    refine ixL (s7.at (F5.ne hq6) e6) hat ?_
    have hv : ∃ n : Nat, v = .int (n : Int) ∧ (n = 2 ∨ n = 3 ∨ n = 4) := by
      simp only [List.mem_cons, List.not_mem_nil, or_false] at hmem
      rcases hmem with rfl | rfl | rfl | rfl
      · exact ⟨2, rfl, by decide⟩
      · exact ⟨2, rfl, by decide⟩
      · exact ⟨3, rfl, by decide⟩
      · exact ⟨4, rfl, by decide⟩
    obtain ⟨nF, rfl, hF⟩ := hv
    have e7 := s7.at n5 (s6 _ _ e5')
    refine ⟨_, rfl, ?_⟩
    refine slL e7 (ys := ((rot t).take nF).map V.str) (by rw [cutV_hi, List.map_take]) fun q8 H8 hq8 e8 s8 => ?_
    have S8 : SameBut p H H8 := ((S5.trans s6.but).trans s7).trans s8.but
    have F8 := F7.same s8
    have n8 : q8 ≠ p := F7.ne hq8
    have e8p := s8 _ _ e7
    clear e6 hq6 s6 s7 hat hmem e7 e5'
    -- the ways
    refine ⟨_, rfl, ?_⟩
    refine nwL (by show 3 ≤ 64; decide) fun q9 H9 hq9 e9 s9 => ?_
    refine ⟨_, rfl, ?_⟩
    refine sp_draw_i (F8.same s9) (by decide) (by decide +kernel) fun z H10 z0 z1 F10 s10 => ?_
    obtain ⟨v, hat, hmem, _⟩ := atI_mem (xs := [V.int 0, V.int 2, V.int 5]) z0 z1
    refine ixL (s10.at (F8.ne hq9) e9) hat ?_
    have hv : ∃ n : Nat, v = .int (n : Int) ∧ (n = 0 ∨ n = 2 ∨ n = 5) := by
      simp only [List.mem_cons, List.not_mem_nil, or_false] at hmem
      rcases hmem with rfl | rfl | rfl
      · exact ⟨0, rfl, by decide⟩
      · exact ⟨2, rfl, by decide⟩
      · exact ⟨5, rfl, by decide⟩
    obtain ⟨o, rfl, ho⟩ := hv
    refine ⟨_, rfl, ?_⟩
    refine slL (s10.at n5 (s9 _ _ e8p)) (ys := ((rot t).drop o).map V.str) (by rw [cutV_lo, List.map_drop]) fun q11 H11 hq11 e11 s11 => ?_
    have F11 := F10.same s11
    have n11 : q11 ≠ p := F10.ne hq11
    have e11f := s11 _ _ (s10.at n8 (s9 _ _ e8))
    have S11 : SameBut p H H11 := ((S8.trans s9.but).trans s10).trans s11.but
    clear e9 hq9 s9 s10 hat hmem
    refine nwL (by show 4 ≤ 64; decide) fun q12 H12 hq12 e12 s12 => ?_
    refine ⟨_, rfl, ?_⟩
    refine sp_draw_i (F11.same s12) (by decide) (by decide +kernel) fun y H13 y0 y1 F13 s13 => ?_
    obtain ⟨v, hat, hmem, _⟩ := atI_mem (xs := [V.int 2, V.int 2, V.int 3, V.int 4]) y0 y1
    refine ixL (s13.at (F11.ne hq12) e12) hat ?_
    have hv : ∃ n : Nat, v = .int (n : Int) ∧ (n = 2 ∨ n = 3 ∨ n = 4) := by
      simp only [List.mem_cons, List.not_mem_nil, or_false] at hmem
      rcases hmem with rfl | rfl | rfl | rfl
      · exact ⟨2, rfl, by decide⟩
      · exact ⟨2, rfl, by decide⟩
      · exact ⟨3, rfl, by decide⟩
      · exact ⟨4, rfl, by decide⟩
    obtain ⟨nW, rfl, hW⟩ := hv
    refine ⟨_, rfl, ?_⟩
    refine slL (s13.at n11 (s12 _ _ e11)) (ys := (((rot t).drop o).take nW).map V.str) (by rw [cutV_hi, List.map_take]) fun q14 H14 hq14 e14 s14 => ?_
    have F14 := F13.same s14
    have n14 : q14 ≠ p := F13.ne hq14
    have e14f := s14 _ _ (s13.at n8 (s12 _ _ e11f))
    have S14 : SameBut p H H14 := ((S11.trans s12.but).trans s13).trans s14.but
    clear e12 hq12 s12 s13 hat hmem e11 e11f
    have lr := rot_len ht
    -- the trial
    refine ⟨_, rfl, q8, _, rfl, .inl ⟨SqL.of e14f, fun l hl => ?_⟩⟩
    have sl := Same.upd (o := .tup (((rot t).take nF).map V.str)) hl
    have el : (upd H14 l (.tup (((rot t).take nF).map V.str))) l = some (.tup (((rot t).take nF).map V.str)) := upd_same
    generalize upd H14 l (.tup (((rot t).take nF).map V.str)) = H15 at sl el
    have F15 := F14.same sl
    refine ⟨_, rfl, q14, rfl, ⟨_, SqL.of (sl _ _ e14)⟩, ?_⟩
    refine comp_fdL (FeedAt.like p L) F15 (fun i y H' => ∃ w : Str × List Fr, (((rot t).drop o).take nW)[i]? = some w.1 ∧ ShOk nF w.2 ∧ Rep H' (wD w) y) (fun i y H1 H2 s ⟨w, h1, h2, h3⟩ => ⟨w, h1, h2, h3.flat s (wD_flat _)⟩) (by rw [List.length_map, List.length_take]; omega) n14 (sl _ _ e14) (fun i x H' Q' hx F' s' k' => ?_) (fun D ys H16 hD hD16 F16 s16 hy16 hr16 => ?_)
    · rw [List.getElem?_map] at hx
      obtain ⟨nm, hn', rfl⟩ := (show ∃ n, (((rot t).drop o).take nW)[i]? = some n ∧ V.str n = x by
        cases q : (((rot t).drop o).take nW)[i]? with
        | none => rw [q] at hx; cases hx
        | some n => rw [q] at hx; cases hx; exact ⟨n, rfl, rfl⟩)
      refine ⟨_, rfl, _, rfl, _, rfl, ?_⟩
      refine rlL (s'.at n8 (sl _ _ e14f)) ?_
      have lf : (((rot t).take nF).map V.str).length = nF := by rw [List.length_map, List.length_take]; omega
      rw [lf]
      refine sp_shares_i F' (by omega) (by omega) fun v fs H17 F17 s17 r17 ok17 => ?_
      refine nwT (by show 2 ≤ 64; decide) fun q18 H18 hq18 e18 s18 => ?_
      exact k' _ H18 (F17.same s18) (s17.trans s18.but) ⟨(nm, fs), hn', ok17, Rep.tup e18 (RepL.cons (Rep.str _) (RepL.cons (r17.same s18) RepL.nil))⟩
    · refine ⟨D, ys, rfl, .inl ⟨SqL.of hD16, fun l2 hl2 => ?_⟩⟩
      have sl2 := Same.upd (o := .tup ys) hl2
      have el2 : (upd H16 l2 (.tup ys)) l2 = some (.tup ys) := upd_same
      generalize upd H16 l2 (.tup ys) = H17 at sl2 el2
      have elf : H17 l = some (.tup (((rot t).take nF).map V.str)) := sl2 _ _ (s16.at (F14.ne hl) el)
      refine nwT (by show 2 ≤ 64; decide) fun q18 H18 hq18 e18 s18 => ?_
      have hws : ∀ (n : Nat) (ys : List V), ys.length = n → (∀ (i : Nat) y, ys[i]? = some y → ∃ w : Str × List Fr, (((rot t).drop o).take nW)[i]? = some w.1 ∧ ShOk nF w.2 ∧ Rep H16 (wD w) y) →
          ∃ ws : List (Str × List Fr), ws.length = n ∧ RepL H16 (ws.map wD) ys ∧ (∀ (i : Nat) w, ws[i]? = some w → (((rot t).drop o).take nW)[i]? = some w.1) ∧ ∀ w ∈ ws, ShOk nF w.2 := by
        generalize ((rot t).drop o).take nW = nl
        intro n
        induction n generalizing nl with
        | zero =>
          intro ys hl _
          cases ys with
          | nil => exact ⟨[], rfl, RepL.nil, fun i w h => by simp at h, fun w h => by cases h⟩
          | cons _ _ => simp at hl
        | succ n ih =>
          intro ys hl h
          cases ys with
          | nil => simp at hl
          | cons y ys =>
            obtain ⟨w, h1, h2, h3⟩ := h 0 y rfl
            obtain ⟨ws, i1, i2, i3, i4⟩ := ih nl.tail ys (by simpa using hl) fun i z hz => by
              obtain ⟨w, h1, h2, h3⟩ := h (i + 1) z (by simpa using hz)
              exact ⟨w, by rw [List.getElem?_tail]; exact h1, h2, h3⟩
            refine ⟨w :: ws, by simp [i1], RepL.cons h3 i2, fun i v hv => ?_, fun v hv => ?_⟩
            · cases i with
              | zero => cases (show w = v by simpa using hv); exact h1
              | succ i =>
                have := i3 i v (by simpa using hv)
                rw [List.getElem?_tail] at this
                exact this
            · rcases List.mem_cons.mp hv with rfl | hv
              · exact h2
              · exact i4 v hv
      obtain ⟨ws, w1, w2, w3, w4⟩ := hws _ ys rfl hr16
      have lnl : (((rot t).drop o).take nW).length = nW := by
        rw [List.length_take, List.length_drop, lr]
        omega
      have lws : ws.length = nW := by rw [w1, hy16, List.length_map, lnl]
      refine k _ t o nF nW ((rot t).take nF) ws H18 ((F16.same sl2).same s18) ?_ ?_ ⟨ht, ho, hF, hW, rfl, ?_, w4⟩
      · exact (S14.trans sl.but).trans (s16.trans (sl2.trans s18).but)
      · exact Rep.tup e18 (RepL.cons (Rep.tup (s18 _ _ elf) (RepL_strs _)) (RepL.cons (Rep.tup (s18 _ _ el2) (w2.same (sl2.trans s18))) RepL.nil))
      · apply List.ext_getElem?
        intro i
        rw [List.getElem?_map]
        cases q : ws[i]? with
        | none =>
          have : nW ≤ i := by rw [← lws]; exact List.getElem?_eq_none_iff.mp q
          rw [List.getElem?_eq_none (by omega)]; rfl
        | some w => rw [w3 i w q]; rfl
end
end Kw
set_option Elab.async false
set_option linter.all false
set_option maxRecDepth 100000
namespace Kw
open PySem L2 Mf
abbrev ctD (cs : List Nat) : PyData := .tuple (cs.map fun (n : Nat) => PyData.int (n : Int))
theorem cts_flat : ∀ cs : List Nat, flatDs (cs.map fun (n : Nat) => PyData.int (n : Int)) = true
  | [] => rfl
  | f :: fs => by show (flatD (.int f) && flatDs (fs.map fun (n : Nat) => PyData.int (n : Int))) = true; rw [cts_flat fs]; rfl
theorem ctD_flat (cs : List Nat) : flatD (ctD cs) = true := cts_flat cs
theorem frA_of {K : PySem.W.Frag} {H : Hp} {a : Addr} {m n : Int} (h : intsIn K a [m, n] = true) : FrV K H (m, n) (.ref a) := ⟨a, rfl, sqT_ints h⟩
/-- a trial's parts -/
theorem tr_at {H : Hp} {fs : List Str} {ws : List (Str × List Fr)} {v : V} (h : Rep H (trD fs ws) v) : ∃ a af aw xf xw, v = .ref a ∧ H a = some (.tup [.ref af, .ref aw]) ∧ H af = some (.tup xf) ∧ H aw = some (.tup xw) ∧ RepL H (fs.map .str) xf ∧ RepL H (ws.map wD) xw := by
  obtain ⟨a, xs, rfl, ha, hr⟩ := tup_at h
  obtain ⟨x, y, rfl, hx, hy⟩ := RepL_two hr
  obtain ⟨af, xf, rfl, h1, h2⟩ := tup_at hx
  obtain ⟨aw, xw, rfl, h3, h4⟩ := tup_at hy
  exact ⟨a, af, aw, xf, xw, rfl, ha, h1, h3, h2, h4⟩
@[irreducible] def sp_waysof : Sp := fun vs H Q _ => ∃ v fs ws, vs = [v] ∧ Rep H (trD fs ws) v ∧ Q (.int (ws.length : Nat)) H
theorem sp_waysof_i {H : Hp} {Q : VK} {E : XK} {v : V} {fs : List Str} {ws : List (Str × List Fr)} (h : Rep H (trD fs ws) v) (q : Q (.int (ws.length : Nat)) H) : sp_waysof [v] H Q E := by unfold sp_waysof; exact ⟨v, fs, ws, rfl, h, q⟩
@[irreducible] def sp_wsh : Sp := fun vs H Q _ => ∃ v fs ws w, ∃ i : Nat, vs = [v, .int (i : Int)] ∧ Rep H (trD fs ws) v ∧ ws[i]? = some w ∧ ∀ x, Rep H (shD w.2) x → Q x H
theorem sp_wsh_i {H : Hp} {Q : VK} {E : XK} {v : V} {fs : List Str} {ws : List (Str × List Fr)} {w : Str × List Fr} {i : Nat} (h : Rep H (trD fs ws) v) (hw : ws[i]? = some w) (q : ∀ x, Rep H (shD w.2) x → Q x H) : sp_wsh [v, .int (i : Int)] H Q E := by unfold sp_wsh; exact ⟨v, fs, ws, w, i, rfl, h, hw, q⟩
/-- fractions of at most so many bits -/
structure BOk (B : Nat) (fs : List Fr) : Prop where
  low : ∀ f ∈ fs, LowF f
  up : ∀ f ∈ fs, f.1.natAbs ≤ 2 ^ B
  dn : ∀ f ∈ fs, f.2.natAbs ≤ 2 ^ B
theorem ShOk.b {n : Nat} {fs : List Fr} (h : ShOk n fs) : BOk 10 fs :=
  ⟨h.low, fun f hf => by have := h.le f hf; have := h.pos f hf; have := h.dn f hf; show f.1.natAbs ≤ 1024; omega, fun f hf => by have := (h.low f hf).pos; have := h.dn f hf; show f.2.natAbs ≤ 1024; omega⟩
@[irreducible] def sp_power (K : PySem.W.Frag) : Sp := fun vs H Q _ => ∃ x f, ∃ c B : Nat, vs = [x, .int (c : Int)] ∧ FrV K H f x ∧ f.1.natAbs ≤ 2 ^ B ∧ f.2.natAbs ≤ 2 ^ B ∧ B ≤ 4000 ∧ c ≤ 4000 ∧ B * c ≤ 4000 ∧ NewF H Q (powF f c)
theorem sp_power_i {K : PySem.W.Frag} {H : Hp} {Q : VK} {E : XK} {x : V} {f : Fr} {c B : Nat} (h : FrV K H f x) (h1 : f.1.natAbs ≤ 2 ^ B) (h2 : f.2.natAbs ≤ 2 ^ B) (h3 : B ≤ 4000) (h5 : c ≤ 4000) (h4 : B * c ≤ 4000) (q : NewF H Q (powF f c)) : sp_power K [x, .int (c : Int)] H Q E := by unfold sp_power; exact ⟨x, f, c, B, rfl, h, h1, h2, h3, h5, h4, q⟩
theorem lt_big {x : Int} {n : Nat} (h : x.natAbs ≤ 2 ^ n) (hn : n ≤ 4000) : x.natAbs < 2 ^ 4001 := Nat.lt_of_le_of_lt h (Nat.pow_lt_pow_right (by decide) (by omega))
theorem szf_of {f : Fr} {n : Nat} (h1 : f.1.natAbs ≤ 2 ^ n) (h2 : f.2.natAbs ≤ 2 ^ n) {k : Nat} (hk : n < k) : Szf k f := ⟨Nat.lt_of_le_of_lt h1 (Nat.pow_lt_pow_right (by decide) hk), Nat.lt_of_le_of_lt h2 (Nat.pow_lt_pow_right (by decide) hk)⟩
@[irreducible] def sp_weight (K : PySem.W.Frag) : Sp := fun vs H Q _ => ∃ v cv fs ws w cs, ∃ i : Nat, vs = [v, .int (i : Int), cv] ∧ Rep H (trD fs ws) v ∧ ws[i]? = some w ∧ Rep H (ctD cs) cv ∧ BOk 10 w.2 ∧ cs.sum ≤ 390 ∧ ∀ x H', Same H H' → FrV K H' (wgtF (w.2.zip cs)) x → Q x H'
theorem sp_weight_i {K : PySem.W.Frag} {H : Hp} {Q : VK} {E : XK} {v cv : V} {fs : List Str} {ws : List (Str × List Fr)} {w : Str × List Fr} {cs : List Nat} {i : Nat} (h : Rep H (trD fs ws) v) (hw : ws[i]? = some w) (hc : Rep H (ctD cs) cv) (ok : BOk 10 w.2) (hs : cs.sum ≤ 390) (q : ∀ x H', Same H H' → FrV K H' (wgtF (w.2.zip cs)) x → Q x H') : sp_weight K [v, .int (i : Int), cv] H Q E := by unfold sp_weight; exact ⟨v, cv, fs, ws, w, cs, i, rfl, h, hw, hc, ok, hs, q⟩
theorem zip_get {α β : Type} {l : List α} {m : List β} {i : Nat} {a : α} {b : β} (h1 : l[i]? = some a) (h2 : m[i]? = some b) : (l.zip m)[i]? = some (a, b) := by rw [List.getElem?_zip_eq_some]; exact ⟨h1, h2⟩
theorem zip_sum {α : Type} (l : List α) (m : List Nat) (i : Nat) : (((l.zip m).take i).map (·.2)).sum ≤ m.sum := by
  induction l generalizing m i with
  | nil => simp
  | cons a l ih =>
    cases m with
    | nil => simp
    | cons b m =>
      cases i with
      | zero => simp
      | succ i =>
        have := ih m i
        simp only [List.zip_cons_cons, List.take_succ_cons, List.map_cons, List.sum_cons]
        omega
theorem mem_zip_take {α β : Type} {l : List α} {m : List β} {i : Nat} {z : α × β} (h : z ∈ (l.zip m).take i) : z.1 ∈ l := (List.of_mem_zip (a := z.1) (b := z.2) (List.mem_of_mem_take h)).1
theorem sum_get {m : List Nat} {i c : Nat} (h : m[i]? = some c) : c ≤ m.sum := by
  induction m generalizing i with
  | nil => simp at h
  | cons a m ih =>
    rw [List.sum_cons]
    cases i with
    | zero => cases (show a = c by simpa using h); omega
    | succ i => have := ih (i := i) (by simpa using h); omega
section
variable {P : Program} {w : World} {K : PySem.W.Frag} {mg : Str → Option Value} {base : Heap} {c : Cl}
theorem ok_ways_of {f : Addr} {fd : FuncData} (F : Fun K "ways_of" "ways_of" s_ways_of f fd) (T : Txt K mg c) : FnOk P w K mg base CX0 1 f fd ["trial"] sp_waysof := by
  refine F.okw sc_ways_of (fun vs H Q E h => ?_) (fun cdv A outer s H vs Q E hr h => ?_)
  · unfold sp_waysof at h
    obtain ⟨v, fs, ws, rfl, _⟩ := h
    rfl
  · unfold sp_waysof at h
    obtain ⟨v, fs, ws, rfl, h, q⟩ := h
    obtain ⟨a, af, aw, xf, xw, rfl, ha, hf, hw, rf, rw'⟩ := tr_at h
    refine ⟨_, (wss_one (ws_ret (we_cB cl_len (by rfl) T.b_len (by decide +kernel) (wa_k (we_ix ix_seq (we_v 0) we_int (fun _ _ => rfl)) wa_nil)))), ?_⟩
    refine ⟨_, rfl, ?_⟩
    refine ixT ha rfl ?_
    refine rlT hw ?_
    rw [reps_len rw']
    exact q
theorem ok_way_shares {f : Addr} {fd : FuncData} (F : Fun K "way_shares" "way_shares" s_way_shares f fd) (T : Txt K mg c) : FnOk P w K mg base CX0 1 f fd ["trial", "way"] sp_wsh := by
  refine F.okw sc_way_shares (fun vs H Q E h => ?_) (fun cdv A outer s H vs Q E hr h => ?_)
  · unfold sp_wsh at h
    obtain ⟨v, fs, ws, w, i, rfl, _⟩ := h
    rfl
  · unfold sp_wsh at h
    obtain ⟨v, fs, ws, w, i, rfl, h, hw', q⟩ := h
    obtain ⟨a, af, aw, xf, xw, rfl, ha, hf, hw, rf, rw'⟩ := tr_at h
    obtain ⟨u, hu, ru⟩ := reps_get' rw' hw'
    obtain ⟨b, xs, rfl, hb, hr'⟩ := tup_at ru
    obtain ⟨y, z, rfl, hy, hz⟩ := RepL_two hr'
    refine ⟨_, (wss_one (ws_ret (we_ix ix_seq (we_ix ix_seq (we_ix ix_seq (we_v 0) we_int (fun _ _ => rfl)) (we_v 1) (fun _ _ => rfl)) we_int (fun _ _ => rfl)))), ?_⟩
    refine ⟨_, rfl, ?_⟩
    refine ixT ha rfl ?_
    refine ⟨_, rfl, ?_⟩
    refine ixT hw (atI_nat (j := i) hu) ?_
    refine ixT hb rfl ?_
    exact q _ hz
theorem ok_power {f : Addr} {fd : FuncData} (F : Fun K "power" "power" s_power f fd) (T : Txt K mg c) : FnOk P w K mg base CX0 1 f fd ["share", "count"] (sp_power K) := by
  refine F.okw sc_power (fun vs H Q E h => ?_) (fun cdv A outer s H vs Q E hr h => ?_)
  · unfold sp_power at h
    obtain ⟨x, f, cc, B, rfl, _⟩ := h
    rfl
  · unfold sp_power at h
    obtain ⟨x, f, n, B, rfl, ⟨a, rfl, ha⟩, h1, h2, h3, h5, h4, q⟩ := h
    refine ⟨_, (wss_cons (ws_set (i := 2) sc_power.nd rfl (Or.inl rfl) we_int)
      (wss_cons (ws_set (i := 3) sc_power.nd rfl (Or.inl rfl) we_int)
      (wss_cons (ws_for PassesOwn.never rfl (wi_range1 rfl T.b_range (wa_k (we_v 1) wa_nil)) (wg_name (i := 4) sc_power.nd rfl (Or.inl rfl)) (wss_cons (ws_set (i := 2) sc_power.nd rfl (Or.inl rfl) (we_op op_mulB (we_v 2) (we_ix ix_seq (we_v 0) we_int (fun _ _ => rfl))))
      (wss_one (ws_set (i := 3) sc_power.nd rfl (Or.inl rfl) (we_op op_mulB (we_v 3) (we_ix ix_seq (we_v 0) we_int (fun _ _ => rfl)))))))
      (wss_one (ws_ret (we_tup (wa_k (we_v 2) (wa_k (we_v 3) wa_nil)))))))), ?_⟩
    refine ⟨_, rfl, _, rfl, by omega, by omega, ?_⟩
    refine for_range (fun i σ H' => ∃ o4, σ = [some (.ref a), some (.int (n : Int)), some (.int (f.1 ^ i)), some (.int (f.2 ^ i)), o4] ∧ H' = H) ⟨_, by rw [Int.pow_zero, Int.pow_zero]; rfl, rfl⟩ ?_ ?_
    · rintro i σ H1 hi ⟨o4, rfl, rfl⟩
      have hB : B * i ≤ 4000 := Nat.le_trans (Nat.mul_le_mul_left _ (by omega)) h4
      refine ⟨_, rfl, _, rfl, ?_⟩
      refine ixK ha rfl ?_
      refine ⟨_, _, rfl, rfl, mulB (lt_big (pow_le h1 i) hB) (lt_big h1 h3), ?_⟩
      refine ⟨_, rfl, _, rfl, ?_⟩
      refine ixK ha rfl ?_
      refine ⟨_, _, rfl, rfl, mulB (lt_big (pow_le h2 i) hB) (lt_big h2 h3), ?_⟩
      exact ⟨_, by rw [Int.pow_succ, Int.pow_succ]; rfl, rfl⟩
    · rintro σ H1 ⟨o4, rfl, rfl⟩
      refine ⟨_, rfl, _, rfl, ?_⟩
      refine nwT (by show 2 ≤ 64; decide) fun q3 H3 hq3 e3 s3 => ?_
      exact q q3 H3 hq3 (by rw [e3]; rfl) s3
set_option maxHeartbeats 4000000 in
theorem ok_weight {f : Addr} {fd : FuncData} (F : Fun K "weight" "weight" s_weight f fd) (T : Txt K mg c)
    (F_way_shares : FnC CX0 P w K mg base 1 "way_shares" ["trial", "way"] sp_wsh) (F_times : FnC CX0 P w K mg base 2 "times" ["one", "other"] (sp_times K)) (F_power : FnC CX0 P w K mg base 1 "power" ["share", "count"] (sp_power K)) : FnOk P w K mg base CX0 3 f fd ["trial", "way", "counts"] (sp_weight K) := by
  refine F.okw sc_weight (fun vs H Q E h => ?_) (fun cdv A outer s H vs Q E hr h => ?_)
  · unfold sp_weight at h
    obtain ⟨v, cv, fs, ws, w, cs, i, rfl, _⟩ := h
    rfl
  · unfold sp_weight at h
    obtain ⟨v, cv, fs, ws, w, cs, j, rfl, h, hw, hc, ok, hs, q⟩ := h
    refine ⟨_, (wss_cons (ws_set (i := 3) sc_weight.nd rfl (Or.inl rfl) (we_glob (v := .ref c.ONE) rfl T.g_ONE rfl))
      (wss_cons (ws_for PassesOwn.never rfl (wi_zip true true rfl T.b_zip (wa_k (we_fn F_way_shares (hr.mono (by decide)) (wa_k (we_v 0) (wa_k (we_v 1) wa_nil))) (wa_k (we_v 2) wa_nil))) (wg_tup rfl (wgs_cons (wg_name (i := 4) sc_weight.nd rfl (Or.inl rfl)) (wgs_cons (wg_name (i := 5) sc_weight.nd rfl (Or.inl rfl)) wgs_nil))) (wss_one (ws_set (i := 3) sc_weight.nd rfl (Or.inl rfl) (we_fn F_times (hr.mono (by decide)) (wa_k (we_v 3) (wa_k (we_fn F_power (hr.mono (by decide)) (wa_k (we_v 4) (wa_k (we_v 5) wa_nil))) wa_nil))))))
      (wss_one (ws_ret (we_v 3))))), ?_⟩
    refine ⟨_, rfl, _, rfl, ?_⟩
    refine sp_wsh_i h hw fun x rx => ?_
    obtain ⟨l1, xs, rfl, h1, r1⟩ := tup_at rx
    obtain ⟨l2, ys, rfl, h2, r2⟩ := tup_at hc
    refine ⟨_, rfl, l1, l2, xs, ys, rfl, h1, h2, ?_⟩
    have hl1 := reps_len r1
    have hl2 := reps_len r2
    have zl : ∀ i, ∀ z ∈ (w.2.zip cs).take i, LowF z.1 := fun i z hz => ok.low _ (mem_zip_take hz)
    have zb : ∀ i, ∀ z ∈ (w.2.zip cs).take i, z.1.1.natAbs ≤ 2 ^ 10 ∧ z.1.2.natAbs ≤ 2 ^ 10 := fun i z hz => ⟨ok.up _ (mem_zip_take hz), ok.dn _ (mem_zip_take hz)⟩
    refine for_zip (fun i σ H' => ∃ x o4 o5, σ = [some v, some (.int (j : Int)), some (.ref l2), some x, o4, o5] ∧ Same H H' ∧ FrV K H' (wgtF ((w.2.zip cs).take i)) x) ⟨_, _, _, rfl, Same.refl _, frA_of T.o_ONE⟩ (fun i σ H' ⟨x, o4, o5, _, s', _⟩ => ⟨s' _ _ h1, s' _ _ h2⟩) ?_ ?_
    · rintro i y z q3 σ H1 H2 hy hz ⟨x, o4, o5, rfl, s1, r⟩ hq3 e3 s3
      obtain ⟨g, hg, rg⟩ := reps_get r1 hy
      obtain ⟨n, hn, rn⟩ := reps_get r2 hz
      cases (show z = V.int (n : Int) from rn)
      have gm := List.mem_of_getElem? hg
      have nn := sum_get hn
      refine ⟨q3, _, rfl, SqT.of e3, rfl, _, _, rfl, _, _, rfl, rfl, ?_⟩
      refine ⟨_, rfl, _, rfl, _, rfl, ?_⟩
      refine sp_power_i (B := 10) (FrV.of (rg.same (s1.trans s3))) (ok.up _ gm) (ok.dn _ gm) (by decide) (by omega) (by omega) ?_
      intro q4 H4 hq4 e4 s4
      obtain ⟨b1, b2⟩ := wgtF_le ((w.2.zip cs).take i) (zl i) (zb i)
      have zs := zip_sum w.2 cs i
      have c1 := pow_le (ok.up _ gm) n
      have c2 := pow_le (ok.dn _ gm) n
      refine sp_times_i (FrV.same (s3.trans s4) r) (FrV.new (f := powF g n) e4) (wgtF_low _ (zl i)) (powF_low (ok.low _ gm) n) (szf_of b1 b2 (by omega)) (szf_of c1 c2 (by omega)) ?_
      intro q5 H5 hq5 e5 s5
      refine ⟨_, _, _, rfl, ((s1.trans s3).trans s4).trans s5, ?_⟩
      rw [take_snoc (zip_get hg hn), wgtF_snoc]
      exact FrV.new e5
    · rintro σ H1 ⟨x, o4, o5, rfl, s1, r⟩
      refine ⟨_, rfl, ?_⟩
      refine q _ H1 s1 ?_
      have e : (w.2.zip cs).take (min xs.length ys.length) = w.2.zip cs := List.take_of_length_le (by rw [List.length_zip]; omega)
      rwa [e] at r
end
/-- a list of fractions whose sums are not too great -/
structure FsB (B : Nat) (fs : List Fr) : Prop where
  low : ∀ f ∈ fs, LowF f
  up : ∀ f ∈ fs, f.1.natAbs ≤ 2 ^ B
  dn : ∀ f ∈ fs, f.2 ≤ 2 ^ B
  sz : B * fs.length + B + fs.length ≤ 3900
theorem FsB.take {B : Nat} {fs : List Fr} (h : FsB B fs) (n : Nat) : FsB B (fs.take n) :=
  ⟨fun f hf => h.low f (List.mem_of_mem_take hf), fun f hf => h.up f (List.mem_of_mem_take hf), fun f hf => h.dn f (List.mem_of_mem_take hf), by
    have h1 := h.sz
    have h2 : (fs.take n).length ≤ fs.length := by rw [List.length_take]; omega
    have h3 := Nat.mul_le_mul_left B h2
    omega⟩
theorem FsB.tot {B : Nat} {fs : List Fr} (h : FsB B fs) : Szf (B * fs.length + B + fs.length + 1) (totF fs) := by
  rw [← totF_eq fs h.low]
  have hw := whole_pos fs h.low
  obtain ⟨h1, h2⟩ := lw_le (n := sumN fs (Mf.whole fs)) hw
  have h3 := (lw_low (n := sumN fs (Mf.whole fs)) hw).pos
  have h4 := whole_le fs (k := B) fun f hf => ⟨h.low f hf, h.dn f hf⟩
  have h5 := sumN_le hw (k := B) fs fun f hf => ⟨h.low f hf, h.up f hf⟩
  have e5 : (2 : Int) ^ (B * fs.length) = ((2 ^ (B * fs.length) : Nat) : Int) := by rw [Int.natCast_pow]; rfl
  rw [e5] at h4
  have h6 : (Mf.whole fs).natAbs ≤ 2 ^ (B * fs.length) := by omega
  have h7 : fs.length ≤ 2 ^ fs.length := Nat.le_of_lt Nat.lt_two_pow_self
  have h8 : fs.length * (2 ^ B * (Mf.whole fs).natAbs) ≤ 2 ^ fs.length * (2 ^ B * 2 ^ (B * fs.length)) := Nat.mul_le_mul h7 (Nat.mul_le_mul_left _ h6)
  have e8 : 2 ^ fs.length * (2 ^ B * 2 ^ (B * fs.length)) = 2 ^ (B * fs.length + B + fs.length) := by rw [← Nat.pow_add, ← Nat.pow_add]; congr 1; omega
  refine ⟨Nat.lt_of_le_of_lt (Nat.le_trans h2 (Nat.le_trans h5 (Nat.le_trans h8 (Nat.le_of_eq e8)))) (Nat.pow_lt_pow_right (by decide) (by omega)), ?_⟩
  have h9 : 2 ^ (B * fs.length) ≤ 2 ^ (B * fs.length + B + fs.length) := Nat.pow_le_pow_right (by decide) (by omega)
  have h10 : 2 ^ (B * fs.length + B + fs.length) < 2 ^ (B * fs.length + B + fs.length + 1) := Nat.pow_lt_pow_right (by decide) (by omega)
  omega
theorem Szf.mono {k m : Nat} {f : Fr} (h : Szf k f) (hk : k ≤ m) : Szf m f := ⟨Nat.lt_of_lt_of_le h.1 (Nat.pow_le_pow_right (by decide) hk), Nat.lt_of_lt_of_le h.2 (Nat.pow_le_pow_right (by decide) hk)⟩
theorem FsB.szf {B : Nat} {fs : List Fr} (h : FsB B fs) {f : Fr} (hf : f ∈ fs) : Szf 4000 f := by
  have h1 := h.up f hf
  have h2 := h.dn f hf
  have h3 := (h.low f hf).pos
  have e5 : (2 : Int) ^ B = ((2 ^ B : Nat) : Int) := by rw [Int.natCast_pow]; rfl
  rw [e5] at h2
  have e : (2 : Nat) ^ B < 2 ^ 4000 := Nat.pow_lt_pow_right (by decide) (by have := h.sz; omega)
  exact ⟨Nat.lt_of_le_of_lt h1 e, by omega⟩
/-- a list's fractions, tracked or of the text -/
structure FrsV (K : PySem.W.Frag) (H : Hp) (fs : List Fr) (xs : List V) : Prop where
  len : xs.length = fs.length
  at_ : ∀ (i : Nat) (x : V), xs[i]? = some x → ∃ f, fs[i]? = some f ∧ FrV K H f x
theorem FrsV.of {K : PySem.W.Frag} {H : Hp} {fs : List Fr} {xs : List V} (r : RepL H (fs.map frD) xs) : FrsV K H fs xs := ⟨reps_len r, fun i x e => by
  obtain ⟨f, h1, h2⟩ := reps_get r e
  exact ⟨f, h1, FrV.of h2⟩⟩
@[irreducible] def sp_total (K : PySem.W.Frag) : Sp := fun vs H Q _ => ∃ a xs fs, ∃ B : Nat, vs = [.ref a] ∧ H a = some (.lst xs) ∧ FrsV K H fs xs ∧ FsB B fs ∧ ∀ v H', Same H H' → Rep H' (frD (totF fs)) v → Q v H'
theorem sp_total_v {K : PySem.W.Frag} {H : Hp} {Q : VK} {E : XK} {a : Addr} {xs : List V} {fs : List Fr} {B : Nat} (h : H a = some (.lst xs)) (r : FrsV K H fs xs) (ok : FsB B fs) (q : ∀ v H', Same H H' → Rep H' (frD (totF fs)) v → Q v H') : sp_total K [.ref a] H Q E := by unfold sp_total; exact ⟨a, xs, fs, B, rfl, h, r, ok, q⟩
theorem sp_total_i {K : PySem.W.Frag} {H : Hp} {Q : VK} {E : XK} {a : Addr} {xs : List V} {fs : List Fr} {B : Nat} (h : H a = some (.lst xs)) (r : RepL H (fs.map frD) xs) (ok : FsB B fs) (q : ∀ v H', Same H H' → Rep H' (frD (totF fs)) v → Q v H') : sp_total K [.ref a] H Q E := sp_total_v h (FrsV.of r) ok q
section
variable {P : Program} {w : World} {K : PySem.W.Frag} {mg : Str → Option Value} {base : Heap} {c : Cl}
theorem ok_total {f : Addr} {fd : FuncData} (F : Fun K "total" "total" s_total f fd) (T : Txt K mg c)
    (F_plus : FnC CX0 P w K mg base 2 "plus" ["one", "other"] (sp_plus K)) : FnOk P w K mg base CX0 3 f fd ["some"] (sp_total K) := by
  refine F.okw sc_total (fun vs H Q E h => ?_) (fun cdv A outer s H vs Q E hr h => ?_)
  · unfold sp_total at h
    obtain ⟨a, xs, fs, B, rfl, _⟩ := h
    rfl
  · unfold sp_total at h
    obtain ⟨a, vs, fs, B, rfl, ha, hv, ok, q⟩ := h
    have hlen := hv.len
    refine ⟨_, (wss_cons (ws_set (i := 1) sc_total.nd rfl (Or.inl rfl) (we_tup (wa_k we_int (wa_k we_int wa_nil))))
      (wss_cons (ws_for PassesOwn.never rfl (wi_list (we_v 0)) (wg_name (i := 2) sc_total.nd rfl (Or.inl rfl)) (wss_one (ws_set (i := 1) sc_total.nd rfl (Or.inl rfl) (we_fn F_plus (hr.mono (by decide)) (wa_k (we_v 1) (wa_k (we_v 2) wa_nil))))))
      (wss_one (ws_ret (we_v 1))))), ?_⟩
    refine nwT (by show 2 ≤ 64; decide) fun p0 H0 hp0 e0 s0 => ?_
    refine ⟨_, rfl, a, rfl, ⟨_, SqL.of (s0 _ _ ha)⟩, ?_⟩
    refine for_list (xs := vs) (fun i σ H' => ∃ w o2, σ = [some (.ref a), some w, o2] ∧ Same H H' ∧ Rep H' (frD (totF (fs.take i))) w) ⟨_, _, rfl, s0, frD_of e0⟩ (fun i σ H' _ p => ?_) ?_ ?_
    · obtain ⟨w, o2, rfl, s1, _⟩ := p
      exact SqL.of (s1 _ _ ha)
    · rintro i x σ H1 hx ⟨w, o2, rfl, s1, r1⟩
      obtain ⟨g, hg, rg⟩ := hv.at_ i x hx
      have okt := ok.take i
      have hm := List.mem_of_getElem? hg
      refine ⟨_, rfl, _, rfl, ?_⟩
      have zt := okt.tot
      have zsz := okt.sz
      refine sp_plus_i (FrV.of r1) (FrV.same s1 rg) (totF_low _ okt.low) (ok.low _ hm) (zt.mono (by omega)) (ok.szf hm) ?_
      intro p2 H2 hp2 e2 s2
      refine ⟨_, _, rfl, s1.trans s2, ?_⟩
      rw [take_snoc hg, totF_snoc]
      exact frD_of e2
    · rintro σ H1 ⟨w, o2, rfl, s1, r1⟩
      refine ⟨_, rfl, ?_⟩
      rw [hlen, List.take_length] at r1
      exact q _ H1 s1 r1
end
/-- each way's mix times its weight, as it stands -/
def raw (ms : List Fr) (ws : List (Str × List Fr)) (cs : List Nat) : List Fr := (ms.zip ws).map fun q => (q.1.1 * (wgtN (q.2.2.zip cs)).1, q.1.2 * (wgtN (q.2.2.zip cs)).2)
def dueD (l : List Fr) : PyData := if sumN l (whole l) = 0 then .none else .tuple (l.map fun f => frD (lw (f.1 * (whole l / f.2)) (sumN l (whole l))))
structure LOk (l : List Fr) : Prop where
  len : l.length ≤ 4
  pos : ∀ f ∈ l, 0 ≤ f.1 ∧ 0 < f.2
  up : ∀ f ∈ l, f.1.natAbs ≤ 2 ^ 90
  dn : ∀ f ∈ l, f.2.natAbs ≤ 2 ^ 90
theorem raw_ok {ms : List Fr} {ws : List (Str × List Fr)} {cs : List Nat} {n m : Nat} (hm : ShOk n ms) (hw : ∀ w ∈ ws, ShOk m w.2) (hn : n ≤ 4) (hc : cs.sum ≤ 8) : LOk (raw ms ws cs) := by
  have key : ∀ f ∈ raw ms ws cs, (0 ≤ f.1 ∧ 0 < f.2) ∧ f.1.natAbs ≤ 2 ^ 90 ∧ f.2.natAbs ≤ 2 ^ 90 := by
    intro f hf
    unfold raw at hf
    obtain ⟨q, hq, rfl⟩ := List.mem_map.mp hf
    have q1 := (List.of_mem_zip (a := q.1) (b := q.2) hq).1
    have q2 := (List.of_mem_zip (a := q.1) (b := q.2) hq).2
    have ok := hw _ q2
    have zl : ∀ z ∈ q.2.2.zip cs, LowF z.1 := fun z hz => ok.low _ (List.of_mem_zip (a := z.1) (b := z.2) hz).1
    have zb : ∀ z ∈ q.2.2.zip cs, z.1.1.natAbs ≤ 2 ^ 10 ∧ z.1.2.natAbs ≤ 2 ^ 10 := fun z hz => ⟨ok.b.up _ (List.of_mem_zip (a := z.1) (b := z.2) hz).1, ok.b.dn _ (List.of_mem_zip (a := z.1) (b := z.2) hz).1⟩
    obtain ⟨b1, b2⟩ := wgtN_le _ zb
    have hsum : ((q.2.2.zip cs).map (·.2)).sum ≤ 8 := by
      have := zip_sum q.2.2 cs (q.2.2.zip cs).length
      rw [List.take_length] at this
      omega
    have e80 : 2 ^ (10 * ((q.2.2.zip cs).map (·.2)).sum) ≤ 2 ^ 80 := Nat.pow_le_pow_right (by decide) (by omega)
    have p0 := wgtN_nonneg (q.2.2.zip cs) fun z hz => ok.pos _ (List.of_mem_zip (a := z.1) (b := z.2) hz).1
    have p1 := wgtN_pos (q.2.2.zip cs) zl
    refine ⟨⟨Int.mul_nonneg (hm.pos _ q1) p0, Int.mul_pos (hm.low _ q1).pos p1⟩, ?_, ?_⟩
    · show (q.1.1 * (wgtN (q.2.2.zip cs)).1).natAbs ≤ _
      rw [Int.natAbs_mul]
      exact Nat.le_trans (Nat.mul_le_mul (hm.b.up _ q1) (Nat.le_trans b1 e80)) (by decide)
    · show (q.1.2 * (wgtN (q.2.2.zip cs)).2).natAbs ≤ _
      rw [Int.natAbs_mul]
      exact Nat.le_trans (Nat.mul_le_mul (hm.b.dn _ q1) (Nat.le_trans b2 e80)) (by decide)
  refine ⟨?_, fun f hf => (key f hf).1, fun f hf => (key f hf).2.1, fun f hf => (key f hf).2.2⟩
  unfold raw
  rw [List.length_map, List.length_zip, hm.len]
  omega
theorem LOk.parts {l : List Fr} (h : LOk l) : FsB 90 (l.map fun f => lw f.1 f.2) := by
  refine ⟨fun f hf => ?_, fun f hf => ?_, fun f hf => ?_, ?_⟩
  · obtain ⟨g, hg, rfl⟩ := List.mem_map.mp hf
    exact lw_low (h.pos g hg).2
  · obtain ⟨g, hg, rfl⟩ := List.mem_map.mp hf
    exact Nat.le_trans (lw_le (n := g.1) (h.pos g hg).2).2 (h.up g hg)
  · obtain ⟨g, hg, rfl⟩ := List.mem_map.mp hf
    have h1 := (lw_le (n := g.1) (h.pos g hg).2).1
    have h2 := h.dn g hg
    have h3 := (h.pos g hg).2
    have e5 : (2 : Int) ^ 90 = ((2 ^ 90 : Nat) : Int) := by decide
    rw [e5]
    omega
  · rw [List.length_map]
    have := h.len
    omega
theorem LOk.whole {l : List Fr} (h : LOk l) : 0 < Mf.whole l ∧ (Mf.whole l).natAbs ≤ 2 ^ 360 := by
  have hp := whole_posD l fun f hf => (h.pos f hf).2
  refine ⟨hp, ?_⟩
  have key : ∀ l : List Fr, (∀ f ∈ l, f.2.natAbs ≤ 2 ^ 90) → (Mf.whole l).natAbs ≤ 2 ^ (90 * l.length) := by
    intro l
    induction l using rev_ind with
    | h0 => intro _; decide
    | hs l a ih =>
      intro hl
      rw [whole_snoc, Int.natAbs_mul, List.length_append, List.length_singleton, Nat.mul_add, Nat.pow_add]
      exact Nat.mul_le_mul (ih fun f hf => hl f (List.mem_append_left _ hf)) (hl a (by simp))
  exact Nat.le_trans (key l h.dn) (Nat.pow_le_pow_right (by decide) (by have := h.len; omega))
theorem LOk.part {l : List Fr} (h : LOk l) {f : Fr} (hf : f ∈ l) : 0 ≤ f.1 * (Mf.whole l / f.2) ∧ (f.1 * (Mf.whole l / f.2)).natAbs ≤ 2 ^ 450 := by
  obtain ⟨hw, hw'⟩ := h.whole
  obtain ⟨f1, f2⟩ := h.pos f hf
  obtain ⟨d1, d2⟩ := ediv_le_self hw f2
  refine ⟨Int.mul_nonneg f1 d1, ?_⟩
  rw [Int.natAbs_mul, show (2 : Nat) ^ 450 = 2 ^ 90 * 2 ^ 360 by rw [← Nat.pow_add]]
  exact Nat.mul_le_mul (h.up f hf) (by omega)
theorem LOk.sum {l : List Fr} (h : LOk l) : 0 ≤ sumN l (Mf.whole l) ∧ (sumN l (Mf.whole l)).natAbs ≤ 2 ^ 452 := by
  obtain ⟨hw, hw'⟩ := h.whole
  refine ⟨sumN_nonneg hw l h.pos, ?_⟩
  have key : ∀ (ns : List Int), (∀ n ∈ ns, n.natAbs ≤ 2 ^ 450) → ns.sum.natAbs ≤ ns.length * 2 ^ 450 := by
    intro ns
    induction ns with
    | nil => intro _; decide
    | cons a ns ih =>
      intro hn
      have h1 := ih fun m hm => hn m (List.mem_cons_of_mem _ hm)
      have h2 := hn a (by simp)
      rw [List.sum_cons, List.length_cons, Nat.add_mul, Nat.one_mul]
      generalize ns.length * 2 ^ 450 = z at *
      generalize 2 ^ 450 = y at *
      omega
  have k := key (l.map fun f => f.1 * (Mf.whole l / f.2)) fun n hn => by
    obtain ⟨f, hf, rfl⟩ := List.mem_map.mp hn
    exact (h.part hf).2
  rw [List.length_map] at k
  exact Nat.le_trans k (Nat.le_trans (Nat.mul_le_mul_right _ h.len) (by decide))
@[irreducible] def sp_behind : Sp := fun vs H Q _ => ∃ v mv cv fs ws ms cs n m, vs = [v, mv, cv] ∧ Rep H (trD fs ws) v ∧ Rep H (shD ms) mv ∧ Rep H (ctD cs) cv ∧ ShOk n ms ∧ (∀ w ∈ ws, ShOk m w.2) ∧ ws.length = n ∧ n ≤ 4 ∧ cs.sum ≤ 8 ∧ ∀ x H', Same H H' → Rep H' (dueD (raw ms ws cs)) x → Q x H'
theorem sp_behind_i {H : Hp} {Q : VK} {E : XK} {v mv cv : V} {fs : List Str} {ws : List (Str × List Fr)} {ms : List Fr} {cs : List Nat} {n m : Nat} (h1 : Rep H (trD fs ws) v) (h2 : Rep H (shD ms) mv) (h3 : Rep H (ctD cs) cv) (h4 : ShOk n ms) (h5 : ∀ w ∈ ws, ShOk m w.2) (h6 : ws.length = n) (h7 : n ≤ 4) (h8 : cs.sum ≤ 8)
    (q : ∀ x H', Same H H' → Rep H' (dueD (raw ms ws cs)) x → Q x H') : sp_behind [v, mv, cv] H Q E := by unfold sp_behind; exact ⟨v, mv, cv, fs, ws, ms, cs, n, m, rfl, h1, h2, h3, h4, h5, h6, h7, h8, q⟩
theorem eq_fr (f : Fr) : PyData.eqv (frD f) (frD (0, 1)) = decide (f = (0, 1)) := by
  obtain ⟨a, b⟩ := f
  simp [PyData.eqv, PyData.eqvAll, Prod.ext_iff]; rfl
theorem fr_shaped (f : Fr) : SeqAt.shaped (frD f) = true := by
  unfold SeqAt.shaped
  rw [Bool.and_eq_true]
  exact ⟨rfl, decide_eq_true (by simp [PyData.depth, PyData.depthAll])⟩
theorem raw_get {ms : List Fr} {ws : List (Str × List Fr)} {cs : List Nat} {i : Nat} {g : Fr} {w : Str × List Fr} (h1 : ms[i]? = some g) (h2 : ws[i]? = some w) : (raw ms ws cs)[i]? = some (g.1 * (wgtN (w.2.zip cs)).1, g.2 * (wgtN (w.2.zip cs)).2) := by
  unfold raw
  rw [List.getElem?_map, zip_get h1 h2]; rfl
section
variable {P : Program} {w : World} {K : PySem.W.Frag} {mg : Str → Option Value} {base : Heap} {c : Cl}
set_option maxHeartbeats 8000000 in
theorem ok_ways_behind {f : Addr} {fd : FuncData} (F : Fun K "ways_behind" "ways_behind" s_ways_behind f fd) (T : Txt K mg c)
    (F_ways_of : FnC CX0 P w K mg base 1 "ways_of" ["trial"] sp_waysof) (F_times : FnC CX0 P w K mg base 2 "times" ["one", "other"] (sp_times K)) (F_weight : FnC CX0 P w K mg base 3 "weight" ["trial", "way", "counts"] (sp_weight K)) (F_total : FnC CX0 P w K mg base 3 "total" ["some"] (sp_total K))
    (F_over : FnC (CX1 P w) P w K mg base 3 "over" ["one", "other"] (sp_over K c.NoFraction)) : FnOk P w K mg base CX0 4 f fd ["trial", "mix", "counts"] sp_behind := by
  refine F.okw sc_ways_behind (fun vs H Q E h => ?_) (fun cdv A outer s H vs Q E hr h => ?_)
  · unfold sp_behind at h
    obtain ⟨v, mv, cv, fs, ws, ms, cs, n, m, rfl, _⟩ := h
    rfl
  · unfold sp_behind at h
    obtain ⟨v, mv, cv, fs, ws, ms, cs, n, m, rfl, hv, hm, hc, okm, okw, lw', n4, hs, q⟩ := h
    have ok := raw_ok (cs := cs) okm okw n4 hs
    obtain ⟨am, xm, rfl, hm', rm⟩ := tup_at hm
    have lm := okm.len
    refine ⟨_, (wss_cons (ws_setComp (i := 3) (CScope.of (psc := defScope s_ways_behind) (N := ["trial", "mix", "counts", "parts", "whole"]) (N' := ["way", "trial", "mix", "counts"]) (js := [0, 1, 2]) (by decide +kernel) rfl rfl rfl) sc_ways_behind.nd rfl rfl (wi_range1 rfl T.b_range (wa_k (we_fn F_ways_of (hr.mono (by decide)) (wa_k (we_v 0) wa_nil)) wa_nil)) (fun _ _ _ _ => wts_nil) (fun _ _ _ _ => (we_fn F_times (hr.mono (by decide)) (wa_k (we_ix (ix_seqK K) (we_v 2) (we_v 0) (fun _ _ => rfl)) (wa_k (we_fn F_weight (hr.mono (by decide)) (wa_k (we_v 1) (wa_k (we_v 0) (wa_k (we_v 3) wa_nil)))) wa_nil)))))
      (wss_cons (ws_set (i := 4) sc_ways_behind.nd rfl (Or.inr rfl) (we_fn F_total (hr.mono (by decide)) (wa_k (we_v 3) wa_nil)))
      (wss_cons (ws_if (wt_cmp (op_eqK K hr.units) (we_v 4) (we_glob (v := .ref c.NOUGHT) rfl T.g_NOUGHT rfl) (nomark _)) (wss_one (ws_ret we_non)) wss_nil)
      (wss_one (ws_ret (we_cT call_tuple_of (by rfl) T.b_tuple (by decide +kernel) (wa_k (we_comp (CScope.of (psc := defScope s_ways_behind) (N := ["trial", "mix", "counts", "parts", "whole"]) (N' := ["part", "whole"]) (js := [4]) (by decide +kernel) rfl rfl rfl) (wi_list (we_v 3)) (fun _ _ _ _ => wts_nil) (fun _ _ _ _ => (we_fnX F_over (hr.mono (by decide)) xpass0 (wa_k (we_v 0) (wa_k (we_v 1) wa_nil))))) wa_nil))))))), ?_⟩
    refine ⟨_, rfl, ?_⟩
    refine sp_waysof_i hv ?_
    refine ⟨_, rfl, by omega, by omega, ?_⟩
    refine comp_mapR (fun i y H' => ∃ g, (raw ms ws cs)[i]? = some g ∧ Rep H' (frD (lw g.1 g.2)) y) (fun i y H1 H2 s ⟨g, h1, h2⟩ => ⟨g, h1, h2.flat s (frD_flat _)⟩) (by omega) (fun i H' Q' hi s' k' => ?_) (fun D ys H1 hD hD1 s1 hy hr1 => ?_)
    · have hi' : i < ws.length := by omega
      have ew : ws[i]? = some ws[i] := List.getElem?_eq_getElem hi'
      generalize ws[i] = wy at ew
      have eg : ms[i]? = some ms[i] := List.getElem?_eq_getElem (by omega)
      generalize ms[i] = g at eg
      obtain ⟨u, hu, ru⟩ := reps_get' rm eg
      have gm := List.mem_of_getElem? eg
      have wm := List.mem_of_getElem? ew
      refine ⟨_, rfl, _, rfl, ?_⟩
      rw [show (0 : Int) + (i : Int) = (i : Int) by omega]
      refine ixT (s' _ _ hm') (atI_nat (j := i) hu) ?_
      refine ⟨_, rfl, _, rfl, _, rfl, ?_⟩
      refine sp_weight_i (hv.same s') ew (hc.same s') (okw _ wm).b (by omega) fun x H2 s2 r2 => ?_
      have zl : ∀ z ∈ wy.2.zip cs, LowF z.1 := fun z hz => (okw _ wm).low _ (List.of_mem_zip (a := z.1) (b := z.2) hz).1
      have zb : ∀ z ∈ wy.2.zip cs, z.1.1.natAbs ≤ 2 ^ 10 ∧ z.1.2.natAbs ≤ 2 ^ 10 := fun z hz => ⟨(okw _ wm).b.up _ (List.of_mem_zip (a := z.1) (b := z.2) hz).1, (okw _ wm).b.dn _ (List.of_mem_zip (a := z.1) (b := z.2) hz).1⟩
      obtain ⟨b1, b2⟩ := wgtF_le _ zl zb
      have hsum : ((wy.2.zip cs).map (·.2)).sum ≤ 8 := by
        have := zip_sum wy.2 cs (wy.2.zip cs).length
        rw [List.take_length] at this
        omega
      refine sp_times_i (FrV.of (ru.same (s'.trans s2))) r2 (okm.low _ gm) (wgtF_low _ zl) (szf_of (okm.b.up _ gm) (okm.b.dn _ gm) (by decide)) (szf_of b1 b2 (by omega)) ?_
      intro q3 H3 hq3 e3 s3
      refine k' _ H3 (s2.trans s3) ⟨_, raw_get eg ew, ?_⟩
      have e : mulF g (wgtF (wy.2.zip cs)) = lw (g.1 * (wgtN (wy.2.zip cs)).1) (g.2 * (wgtN (wy.2.zip cs)).2) := by
        rw [wgtF_eq _ zl, ← mul_lw (okm.low _ gm).pos (wgtN_pos _ zl), lw_self (okm.low _ gm)]
      rw [← e]
      exact frD_of e3
    · have ll : (raw ms ws cs).length = n := by
        unfold raw
        rw [List.length_map, List.length_zip]
        omega
      generalize raw ms ws cs = l at *
      have hrep : RepL H1 ((l.map fun f => lw f.1 f.2).map frD) ys := by
        refine RepL.ofIdx (by rw [hy, List.length_map, List.length_map, ll]; omega) fun i y hi => ?_
        obtain ⟨g, h1, h2⟩ := hr1 i y hi
        exact ⟨_, by rw [List.getElem?_map, List.getElem?_map, h1]; rfl, h2⟩
      have okp := ok.parts
      refine ⟨_, rfl, ?_⟩
      refine sp_total_i hD1 hrep okp fun tv H2 s2 r2 => ?_
      rw [tot_lw l fun f hf => (ok.pos f hf).2] at r2
      obtain ⟨hw, hw'⟩ := ok.whole
      obtain ⟨hs0, hs1⟩ := ok.sum
      have kt := RepK.tup (K := K) (sqT_ints (H := H2) T.o_NOUGHT) (RepKL.ints [0, 1])
      refine ⟨_, rfl, ?_⟩
      refine reK r2.k kt (fr_shaped _) (fr_shaped (0, 1)) ?_
      rw [show PyData.eqv (frD (lw (sumN l (Mf.whole l)) (Mf.whole l))) (.tuple ([0, 1].map PyData.int)) = decide (lw (sumN l (Mf.whole l)) (Mf.whole l) = (0, 1)) from eq_fr _]
      refine ⟨_, rfl, ?_⟩
      by_cases e0 : sumN l (Mf.whole l) = 0
      · have e1 : lw (sumN l (Mf.whole l)) (Mf.whole l) = (0, 1) := by rw [e0, lw_zero hw]
        rw [decide_eq_true e1]
        refine iteT ?_
        refine q _ H2 (s1.trans s2) ?_
        unfold dueD
        rw [if_pos e0]
        exact Rep.non
      · have hS : 0 < sumN l (Mf.whole l) := by omega
        have c1 := lw_cross (n := sumN l (Mf.whole l)) (d := Mf.whole l)
        have tl := lw_low (n := sumN l (Mf.whole l)) hw
        have t1 : 0 < (lw (sumN l (Mf.whole l)) (Mf.whole l)).1 := by
          refine Int.pos_of_mul_pos_left ?_ hw
          rw [c1]
          exact Int.mul_pos hS tl.pos
        have e1 : lw (sumN l (Mf.whole l)) (Mf.whole l) ≠ (0, 1) := fun e => by rw [e] at t1; exact absurd t1 (by decide)
        rw [decide_eq_false e1]
        refine iteF ?_
        have tz := okp.tot
        rw [tot_lw l fun f hf => (ok.pos f hf).2] at tz
        have tz4 := tz.mono (m := 4000) (by have := okp.sz; omega)
        refine ⟨_, rfl, D, rfl, ⟨_, SqL.of (s2 _ _ hD1)⟩, ?_⟩
        refine comp_mapL (fun i y H' => ∃ g, l[i]? = some g ∧ Rep H' (frD (lw (g.1 * (Mf.whole l / g.2)) (sumN l (Mf.whole l)))) y) (fun i y H1 H2 s ⟨g, h1, h2⟩ => ⟨g, h1, h2.flat s (frD_flat _)⟩) (by omega) (s2 _ _ hD1) (fun i x H' Q' hx s' k' => ?_) (fun D2 zs H3 hD2 hD3 s3 hy3 hr3 => ?_)
        · obtain ⟨g, hg, rg⟩ := hr1 i x hx
          have gm := List.mem_of_getElem? hg
          have pm : lw g.1 g.2 ∈ l.map fun f => lw f.1 f.2 := List.mem_map_of_mem gm
          refine ⟨_, rfl, _, rfl, ?_⟩
          refine sp_over_i (FrV.of (rg.same (s2.trans s'))) (FrV.of (r2.same s')) (okp.low _ pm) tl (okp.szf pm) tz4 (fun z => absurd z (by omega)) (fun _ => ?_)
          have eu : upF (lw (sumN l (Mf.whole l)) (Mf.whole l)) = ((lw (sumN l (Mf.whole l)) (Mf.whole l)).2, (lw (sumN l (Mf.whole l)) (Mf.whole l)).1) := by unfold upF; rw [if_neg (by omega)]
          rw [eu, over_eq (ok.pos _ gm).2 hw hS (whole_dvd l _ gm)]
          intro q4 H4 hq4 e4 s4
          exact k' _ H4 s4 ⟨g, hg, frD_of e4⟩
        · refine ⟨D2, zs, rfl, .inl ⟨SqL.of hD3, fun l2 hl2 => ?_⟩⟩
          have sl2 := Same.upd (o := .tup zs) hl2
          have el2 : (upd H3 l2 (.tup zs)) l2 = some (.tup zs) := upd_same
          generalize upd H3 l2 (.tup zs) = H4 at sl2 el2
          refine q _ H4 (((s1.trans s2).trans s3).trans sl2) ?_
          unfold dueD
          rw [if_neg e0]
          refine Rep.tup el2 (RepL.ofIdx (by rw [hy3, hy, List.length_map, ll]; omega) fun i y hi => ?_)
          obtain ⟨g, h1, h2⟩ := hr3 i y hi
          exact ⟨_, by rw [List.getElem?_map, h1]; rfl, h2.same sl2⟩
end
end Kw
set_option Elab.async false
set_option linter.all false
set_option maxRecDepth 100000
namespace Kw
open PySem L2 Mf
theorem mN_le (c : List Nat) : mN c ≤ fac c.sum := by
  have := mN_fac c
  have h := fp_pos c
  rw [← this]
  exact Nat.le_mul_of_pos_right _ h
theorem fac_le : ∀ {n : Nat}, n ≤ 64 → fac n ≤ 2 ^ (6 * n)
  | 0, _ => by decide
  | n + 1, h => by
    have ih := fac_le (n := n) (by omega)
    show (n + 1) * fac n ≤ 2 ^ (6 * n + 6)
    rw [Nat.pow_add, Nat.mul_comm]
    exact Nat.mul_le_mul ih (by show n + 1 ≤ 64; omega)
theorem mN_sz {c : List Nat} (h : c.sum ≤ 64) : mN c ≤ 2 ^ 384 := Nat.le_trans (mN_le c) (Nat.le_trans (fac_le h) (Nat.pow_le_pow_right (by decide) (by omega)))
theorem sum_take_le : ∀ (l : List Nat) (i : Nat), (l.take i).sum ≤ l.sum
  | [], i => by simp
  | a :: l, 0 => by simp
  | a :: l, i + 1 => by
    have := sum_take_le l i
    rw [List.take_succ_cons, List.sum_cons, List.sum_cons]; omega
@[irreducible] def sp_rowsto : Sp := fun vs H Q _ => ∃ cv cs, vs = [cv] ∧ Rep H (ctD cs) cv ∧ cs.sum ≤ 64 ∧ Q (.int (mN cs : Nat)) H
theorem sp_rowsto_i {H : Hp} {Q : VK} {E : XK} {cv : V} {cs : List Nat} (h : Rep H (ctD cs) cv) (hs : cs.sum ≤ 64) (q : Q (.int (mN cs : Nat)) H) : sp_rowsto [cv] H Q E := by unfold sp_rowsto; exact ⟨cv, cs, rfl, h, hs, q⟩
section
variable {P : Program} {w : World} {K : PySem.W.Frag} {mg : Str → Option Value} {base : Heap} {c : Cl}
theorem ok_rows_to {f : Addr} {fd : FuncData} (F : Fun K "rows_to" "rows_to" s_rows_to f fd) (T : Txt K mg c) : FnOk P w K mg base CX0 1 f fd ["counts"] sp_rowsto := by
  refine F.okw sc_rows_to (fun vs H Q E h => ?_) (fun cdv A outer s H vs Q E hr h => ?_)
  · unfold sp_rowsto at h
    obtain ⟨cv, cs, rfl, _⟩ := h
    rfl
  · unfold sp_rowsto at h
    obtain ⟨cv, cs, rfl, h, hs, q⟩ := h
    obtain ⟨a, xs, rfl, ha, rx⟩ := tup_at h
    have hlen := reps_len rx
    refine ⟨_, (wss_cons (ws_set (i := 1) sc_rows_to.nd rfl (Or.inl rfl) we_int)
      (wss_cons (ws_set (i := 2) sc_rows_to.nd rfl (Or.inl rfl) we_int)
      (wss_cons (ws_for PassesOwn.never rfl (wi_tup (we_v 0)) (wg_name (i := 3) sc_rows_to.nd rfl (Or.inl rfl)) (wss_one (ws_for PassesOwn.never rfl (wi_range2 rfl T.b_range (wa_k we_int (wa_k (we_op op_add (we_v 3) we_int) wa_nil))) (wg_name (i := 4) sc_rows_to.nd rfl (Or.inl rfl)) (wss_cons (ws_set (i := 2) sc_rows_to.nd rfl (Or.inl rfl) (we_op op_add (we_v 2) we_int))
      (wss_one (ws_set (i := 1) sc_rows_to.nd rfl (Or.inl rfl) (we_op op_fdivB (we_op op_mulB (we_v 1) (we_v 2)) (we_v 4))))))))
      (wss_one (ws_ret (we_v 1)))))), ?_⟩
    refine ⟨_, rfl, a, rfl, ⟨_, SqT.of ha⟩, ?_⟩
    refine for_tup (xs := xs) (fun i σ H' => ∃ o3 o4, σ = [some (.ref a), some (.int (mN (cs.take i) : Nat)), some (.int ((cs.take i).sum : Nat)), o3, o4] ∧ H' = H) ⟨_, _, rfl, rfl⟩ (fun i σ H' _ p => ?_) ?_ ?_
    · obtain ⟨o3, o4, _, rfl⟩ := p
      exact SqT.of ha
    · rintro i x σ H1 hx ⟨o3, o4, rfl, rfl⟩
      obtain ⟨n, hn, rn⟩ := reps_get rx hx
      cases (show x = V.int (n : Int) from rn)
      have hti := take_snoc hn
      have hle := sum_take_le cs (i + 1)
      rw [hti, List.sum_append] at hle
      simp only [List.sum_cons, List.sum_nil, Nat.add_zero] at hle
      refine ⟨_, rfl, _, _, rfl, rfl, _, _, rfl, ⟨by decide, by decide, by omega, by omega⟩, ?_⟩
      have en : ((n : Int) + 1 - 1).toNat = n := by omega
      rw [en]
      refine for_range (fun k σ H' => ∃ o4, σ = [some (.ref a), some (.int (mN (cs.take i) * bin ((cs.take i).sum + k) k : Nat)), some (.int ((cs.take i).sum + k : Nat)), some (.int (n : Int)), o4] ∧ H' = H1) ⟨_, by rw [bin_zero, Nat.mul_one]; rfl, rfl⟩ ?_ ?_
      · rintro k σ H2 hk ⟨o4, rfl, rfl⟩
        have zk : (mN (cs.take i) * bin ((cs.take i).sum + k) k) ≤ 2 ^ 384 := by
          have := mN_sz (c := cs.take i ++ [k]) (by rw [List.sum_append]; simp only [List.sum_cons, List.sum_nil, Nat.add_zero]; omega)
          rwa [mN_snoc] at this
        have e1 : (((cs.take i).sum + k : Nat) : Int) + 1 = (((cs.take i).sum + (k + 1) : Nat) : Int) := by omega
        have e2 : (1 : Int) + (k : Int) = ((k + 1 : Nat) : Int) := by omega
        have key : ((mN (cs.take i) * bin ((cs.take i).sum + k) k : Nat) : Int) * (((cs.take i).sum + (k + 1) : Nat) : Int) / ((k + 1 : Nat) : Int) = ((mN (cs.take i) * bin ((cs.take i).sum + (k + 1)) (k + 1) : Nat) : Int) := by
          have hb := bin_step ((cs.take i).sum + k) k
          have e3 : mN (cs.take i) * bin ((cs.take i).sum + k) k * ((cs.take i).sum + (k + 1)) = (k + 1) * (mN (cs.take i) * bin ((cs.take i).sum + (k + 1)) (k + 1)) := by
            rw [Nat.mul_assoc, Nat.mul_comm (bin _ k), show (cs.take i).sum + (k + 1) = (cs.take i).sum + k + 1 from rfl, ← hb]
            ac_rfl
          rw [← Int.natCast_mul, e3, Int.natCast_mul]
          exact Int.mul_ediv_cancel_left _ (by omega)
        refine ⟨_, rfl, _, _, rfl, rfl, ?_⟩
        refine ⟨_, rfl, _, rfl, _, _, rfl, rfl, mulB (n := 400) (m := 64) ?_ ?_, ?_⟩
        · rw [Int.natAbs_natCast]
          exact Nat.lt_of_le_of_lt zk (Nat.pow_lt_pow_right (by decide) (by decide))
        · exact Nat.lt_of_le_of_lt (m := 100) (by omega) (by decide)
        refine ⟨_, rfl, _, _, rfl, rfl, divOk ?_ ?_, ?_⟩
        · omega
        · exact Nat.lt_of_lt_of_le (show ((1 : Int) + (k : Int)).natAbs < 2 ^ 10 by show _ < 1024; omega) (Nat.pow_le_pow_right (by decide) (by decide))
        refine ⟨some (.int (1 + (k : Int))), ?_, rfl⟩
        rw [← key, ← e1, ← e2]
        rfl
      · rintro σ H2 ⟨o4, rfl, rfl⟩
        refine ⟨some (.int (n : Int)), o4, ?_, rfl⟩
        rw [hti, mN_snoc, List.sum_append]
        first | (simp only [List.sum_cons, List.sum_nil, Nat.add_zero]; done) | (simp only [List.sum_cons, List.sum_nil, Nat.add_zero]; rfl)
    · rintro σ H1 ⟨o3, o4, rfl, rfl⟩
      refine ⟨_, rfl, ?_⟩
      rw [hlen, List.take_length]
      exact q
end
def LsAt (H : Hp) (a : Addr) (cs : List (List Nat)) : Prop := ∃ vs, H a = some (.lst vs) ∧ RepL H (cs.map ctD) vs
theorem cs_flat : ∀ cs : List (List Nat), flatDs (cs.map ctD) = true
  | [] => rfl
  | c :: cs => by show (flatD (ctD c) && flatDs (cs.map ctD)) = true; rw [cs_flat cs, ctD_flat]; rfl
theorem LsAt.same {H H' : Hp} {a : Addr} {cs : List (List Nat)} (h : LsAt H a cs) (s : Same H H') : LsAt H' a cs := by
  obtain ⟨vs, h1, h2⟩ := h
  exact ⟨vs, s _ _ h1, h2.same s⟩
theorem LsAt.len {H : Hp} {a : Addr} {cs : List (List Nat)} (h : LsAt H a cs) : ∃ vs, H a = some (.lst vs) ∧ RepL H (cs.map ctD) vs ∧ vs.length = cs.length := by
  obtain ⟨vs, h1, h2⟩ := h
  exact ⟨vs, h1, h2, reps_len h2⟩
theorem RepL.app {H : Hp} : ∀ {ds es : List PyData} {xs ys : List V}, RepL H ds xs → RepL H es ys → RepL H (ds ++ es) (xs ++ ys)
  | [], es, xs, ys, h1, h2 => by
    have : xs = [] := h1
    subst this
    exact h2
  | d :: ds, es, xs, ys, h1, h2 => by
    unfold RepL at h1
    obtain ⟨x, xs', rfl, hx, hr⟩ := (show ∃ x xs', xs = x :: xs' ∧ Rep H d x ∧ RepL H ds xs' from h1)
    exact RepL.cons hx (RepL.app hr h2)
theorem flat_snoc {α : Type} (g : Nat → List α) (i : Nat) : (List.range (i + 1)).flatMap g = (List.range i).flatMap g ++ g i := by
  rw [List.range_succ, List.flatMap_append]
  simp
@[irreducible] def sp_cta (n : Nat) : Sp := fun vs H Q _ => ∃ F m : Nat, vs = [.int (F : Int), .int (m : Int)] ∧ 1 ≤ F ∧ F ≤ n ∧ F ≤ 4 ∧ m ≤ 5 ∧ ∀ a H', Same H H' → H a = none → LsAt H' a (cta F m) → Q (.ref a) H'
theorem sp_cta_i {n : Nat} {H : Hp} {Q : VK} {E : XK} {F m : Nat} (h1 : 1 ≤ F) (h2 : F ≤ n) (h4 : F ≤ 4) (h3 : m ≤ 5) (q : ∀ a H', Same H H' → H a = none → LsAt H' a (cta F m) → Q (.ref a) H') : sp_cta n [.int (F : Int), .int (m : Int)] H Q E := by unfold sp_cta; exact ⟨F, m, rfl, h1, h2, h4, h3, q⟩
theorem sp_cta_e {n : Nat} {H : Hp} {Q : VK} {E : XK} {F m : Nat} {x y : Int} (ex : x = (F : Int)) (ey : y = (m : Int)) (h1 : 1 ≤ F) (h2 : F ≤ n) (h4 : F ≤ 4) (h3 : m ≤ 5) (q : ∀ a H', Same H H' → H a = none → LsAt H' a (cta F m) → Q (.ref a) H') : sp_cta n [.int x, .int y] H Q E := by
  subst ex ey; exact sp_cta_i h1 h2 h4 h3 q
@[irreducible] def sp_allc : Sp := fun vs H Q _ => ∃ F m : Nat, vs = [.int (F : Int), .int (m : Int)] ∧ 1 ≤ F ∧ F ≤ 4 ∧ m ≤ 5 ∧ ∀ a H', Same H H' → H a = none → LsAt H' a ((List.range (m + 1)).flatMap (cta F)) → Q (.ref a) H'
theorem sp_allc_i {H : Hp} {Q : VK} {E : XK} {F m : Nat} (h1 : 1 ≤ F) (h4 : F ≤ 4) (h3 : m ≤ 5) (q : ∀ a H', Same H H' → H a = none → LsAt H' a ((List.range (m + 1)).flatMap (cta F)) → Q (.ref a) H') : sp_allc [.int (F : Int), .int (m : Int)] H Q E := by unfold sp_allc; exact ⟨F, m, rfl, h1, h4, h3, q⟩
theorem cta_small : ∀ F, F ≤ 4 → ∀ m, m ≤ 5 → (cta F m).length ≤ 56 := by decide +kernel
theorem part_small : ∀ F, F ≤ 3 → ∀ m, m ≤ 5 → ∀ i, i ≤ 6 → ((List.range i).flatMap fun k => (cta F (m - k)).map fun c => k :: c).length ≤ 400 := by decide +kernel
theorem all_small : ∀ F, F ≤ 4 → ∀ i, i ≤ 6 → ((List.range i).flatMap (cta F)).length ≤ 400 := by decide +kernel
theorem cta_long {F m : Nat} {c : List Nat} (h : c ∈ cta F m) : c.length = F := (cta_mem h).1
section
variable {P : Program} {w : World} {K : PySem.W.Frag} {mg : Str → Option Value} {base : Heap} {c : Cl}
theorem ok0_counts_that_are {f : Addr} {fd : FuncData} (F : Fun K "counts_that_are" "counts_that_are" s_counts_that_are f fd) (T : Txt K mg c) : FnOk P w K mg base CX0 1 f fd ["faces", "many"] (sp_cta 0) := by
  refine F.okw sc_counts_that_are (fun vs H Q E h => ?_) (fun cdv A outer s H vs Q E hr h => ?_)
  · unfold sp_cta at h
    obtain ⟨F, m, _, h1, h2, _⟩ := h
    omega
  · unfold sp_cta at h
    obtain ⟨F, m, _, h1, h2, _⟩ := h
    omega
set_option maxHeartbeats 8000000 in
theorem ok_counts_that_are (n : Nat) {f : Addr} {fd : FuncData} (F : Fun K "counts_that_are" "counts_that_are" s_counts_that_are f fd) (T : Txt K mg c) (F_counts_that_are : FnC CX0 P w K mg base (1 + n) "counts_that_are" ["faces", "many"] (sp_cta n)) :
    FnOk P w K mg base CX0 (1 + n + 1) f fd ["faces", "many"] (sp_cta (n + 1)) := by
  refine F.okw sc_counts_that_are (fun vs H Q E h => ?_) (fun cdv A outer s H vs Q E hr h => ?_)
  · unfold sp_cta at h
    obtain ⟨F, m, rfl, _⟩ := h
    rfl
  · unfold sp_cta at h
    obtain ⟨F, m, rfl, h1, h2, h4, hm, q⟩ := h
    refine ⟨_, (wss_cons (ws_if (wt_cmp op_eq (we_v 0) we_int (nomark _)) (wss_one (ws_ret (we_lst (wa_k (we_tup (wa_k (we_v 1) wa_nil)) wa_nil)))) wss_nil)
      (wss_cons (ws_set (i := 2) sc_counts_that_are.nd rfl (Or.inl rfl) (we_lst wa_nil))
      (wss_cons (ws_for PassesOwn.never rfl (wi_range1 rfl T.b_range (wa_k (we_op op_add (we_v 1) we_int) wa_nil)) (wg_name (i := 3) sc_counts_that_are.nd rfl (Or.inr rfl)) (wss_one (ws_expr (we_bm PySem.F.plainAttrs_list PySem.F.slot_list_extend PySem.F.type_list_extend mt_ext (we_v 2) (wa_k (we_comp (CScope.of (psc := defScope s_counts_that_are) (N := ["faces", "many", "found", "first"]) (N' := ["rest", "first"]) (js := [3]) (by decide +kernel) rfl rfl rfl) (wi_list (we_fn F_counts_that_are (hr.mono (by omega)) (wa_k (we_op op_sub (we_v 0) we_int) (wa_k (we_op op_sub (we_v 1) (we_v 3)) wa_nil)))) (fun _ _ _ _ => wts_nil) (fun _ _ _ _ => (we_op (op_catU K) (we_tup (wa_k (we_v 1) wa_nil)) (we_v 0)))) wa_nil)))))
      (wss_one (ws_ret (we_v 2)))))), ?_⟩
    refine ⟨_, rfl, rfl, _, rfl, ?_⟩
    refine iteD (fun e => ?_) (fun e => ?_)
    · have eF : F = 1 := by injection e with e; omega
      subst eF
      refine ⟨_, rfl, ?_⟩
      refine nwT (by show 1 ≤ 64; decide) fun p0 H0 hp0 e0 s0 => ?_
      refine nwL (by show 1 ≤ 64; decide) fun p1 H1 hp1 e1 s1 => ?_
      refine q p1 H1 (s0.trans s1) (s0.free hp1) ⟨_, e1, ?_⟩
      exact RepL.cons (Rep.tup (s1 _ _ e0) (RepL.cons (Rep.int _) RepL.nil)) RepL.nil
    · have eF : F ≠ 1 := fun z => e (by rw [z]; rfl)
      obtain ⟨G, rfl⟩ : ∃ G, F = G + 2 := ⟨F - 2, by omega⟩
      refine nwL (by show 0 ≤ 64; decide) fun L H1 hL e1 s1 => ?_
      refine ⟨_, rfl, _, _, rfl, rfl, _, rfl, by omega, by omega, ?_⟩
      rw [show ((m : Int) + 1).toNat = m + 1 by omega]
      refine for_range (fun i σ H' => ∃ o3, σ = [some (.int ((G + 2 : Nat) : Int)), some (.int (m : Int)), some (.ref L), o3] ∧ Same H H' ∧ LsAt H' L ((List.range i).flatMap fun k => (cta (G + 1) (m - k)).map fun c => k :: c)) ⟨_, rfl, s1, [], e1, RepL.nil⟩ ?_ ?_
      · rintro i σ H2 hi ⟨o3, rfl, s2, vs, e2, r2⟩
        have lv := reps_len r2
        have sml := part_small (G + 1) (by omega) m hm i (by omega)
        refine ⟨_, rfl, tyL e2, ?_⟩
        refine ⟨_, rfl, _, _, rfl, rfl, ?_⟩
        refine ⟨_, rfl, _, rfl, _, _, rfl, rfl, ?_⟩
        refine sp_cta_e (F := G + 1) (m := m - i) (by omega) (by omega) (by omega) (by omega) (by omega) (by omega) fun b H3 s3 hb l3 => ?_
        obtain ⟨ws, e3, r3, lw3⟩ := l3.len
        have sm2 := cta_small (G + 1) (by omega) (m - i) (by omega)
        refine ⟨b, rfl, ⟨_, SqL.of e3⟩, ?_⟩
        refine comp_mapL (fun j y H' => ∃ c, (cta (G + 1) (m - i))[j]? = some c ∧ Rep H' (ctD (i :: c)) y) (fun j y H1 H2 s ⟨c, h1, h2⟩ => ⟨c, h1, h2.flat s (ctD_flat _)⟩) (by omega) e3 (fun j x H' Q' hx s' k' => ?_) (fun D ys H4 hD hD4 s4 hy hr4 => ?_)
        · obtain ⟨c, hc, rc⟩ := reps_get r3 hx
          obtain ⟨ac, xc, rfl, hac, rxc⟩ := tup_at (rc.same s')
          have lc := reps_len rxc
          have lc2 := cta_long (List.mem_of_getElem? hc)
          refine ⟨_, rfl, ?_⟩
          refine nwT (by show 1 ≤ 64; decide) fun p4 H5 hp4 e4 s5 => ?_
          refine ⟨_, rfl, ?_⟩
          refine catU e4 (s5 _ _ hac) (by simp only [List.length_cons, List.length_nil]; omega) fun p5 H6 s6 e6 => ?_
          refine k' _ H6 (s5.trans s6) ⟨c, hc, Rep.tup e6 ?_⟩
          rw [show (0 : Int) + (i : Int) = (i : Int) by omega]
          exact RepL.cons (Rep.int _) (rxc.same (s5.trans s6))
        · have S4 := s3.trans s4
          have nLD : D ≠ L := fun z => by subst z; rw [s3 _ _ e2] at hD; cases hD
          refine extL (S4 _ _ e2) hD4 (by omega) fun H5 e5 s5 => ?_
          have t5 := s5.t (S4 _ _ e2)
          refine ⟨_, rfl, Same.thru hL (s2.trans S4) s5, vs ++ ys, e5, ?_⟩
          rw [flat_snoc, List.map_append]
          refine RepL.app (RepL.flat t5 (cs_flat _) (r2.same S4)) (RepL.flat t5 (cs_flat _) ?_)
          refine RepL.ofIdx (by rw [hy, List.length_map, List.length_map]; omega) fun j y hj => ?_
          obtain ⟨c, hc, rc⟩ := hr4 j y hj
          exact ⟨_, by rw [List.getElem?_map, List.getElem?_map, hc]; rfl, rc⟩
      · rintro σ H2 ⟨o3, rfl, s2, l2⟩
        refine ⟨_, rfl, ?_⟩
        exact q L H2 s2 hL l2
set_option maxHeartbeats 8000000 in
theorem ok_all_counts {f : Addr} {fd : FuncData} (F : Fun K "all_counts" "all_counts" s_all_counts f fd) (T : Txt K mg c) (F_counts_that_are : FnC CX0 P w K mg base 5 "counts_that_are" ["faces", "many"] (sp_cta 4)) :
    FnOk P w K mg base CX0 6 f fd ["faces", "most"] sp_allc := by
  refine F.okw sc_all_counts (fun vs H Q E h => ?_) (fun cdv A outer s H vs Q E hr h => ?_)
  · unfold sp_allc at h
    obtain ⟨F, m, rfl, _⟩ := h
    rfl
  · unfold sp_allc at h
    obtain ⟨F, m, rfl, h1, h4, hm, q⟩ := h
    refine ⟨_, (wss_cons (ws_set (i := 2) sc_all_counts.nd rfl (Or.inl rfl) (we_lst wa_nil))
      (wss_cons (ws_for PassesOwn.never rfl (wi_range1 rfl T.b_range (wa_k (we_op op_add (we_v 1) we_int) wa_nil)) (wg_name (i := 3) sc_all_counts.nd rfl (Or.inl rfl)) (wss_one (ws_expr (we_bm PySem.F.plainAttrs_list PySem.F.slot_list_extend PySem.F.type_list_extend mt_ext (we_v 2) (wa_k (we_fn F_counts_that_are (hr.mono (by decide)) (wa_k (we_v 0) (wa_k (we_v 3) wa_nil))) wa_nil)))))
      (wss_one (ws_ret (we_v 2))))), ?_⟩
    refine nwL (by show 0 ≤ 64; decide) fun L H1 hL e1 s1 => ?_
    refine ⟨_, rfl, _, _, rfl, rfl, _, rfl, by omega, by omega, ?_⟩
    rw [show ((m : Int) + 1).toNat = m + 1 by omega]
    refine for_range (fun i σ H' => ∃ o3, σ = [some (.int (F : Int)), some (.int (m : Int)), some (.ref L), o3] ∧ Same H H' ∧ LsAt H' L ((List.range i).flatMap (cta F))) ⟨_, rfl, s1, [], e1, RepL.nil⟩ ?_ ?_
    · rintro i σ H2 hi ⟨o3, rfl, s2, vs, e2, r2⟩
      have lv := reps_len r2
      have sml := all_small F h4 i (by omega)
      refine ⟨_, rfl, tyL e2, ?_⟩
      refine ⟨_, rfl, _, rfl, ?_⟩
      refine sp_cta_e (F := F) (m := i) rfl (by omega) h1 h4 h4 (by omega) fun b H3 s3 hb l3 => ?_
      obtain ⟨ws, e3, r3, lw3⟩ := l3.len
      have sm2 := cta_small F h4 i (by omega)
      refine extL (s3 _ _ e2) e3 (by omega) fun H5 e5 s5 => ?_
      have t5 := s5.t (s3 _ _ e2)
      refine ⟨_, rfl, Same.thru hL (s2.trans s3) s5, vs ++ ws, e5, ?_⟩
      rw [flat_snoc, List.map_append]
      exact RepL.app (RepL.flat t5 (cs_flat _) (r2.same s3)) (RepL.flat t5 (cs_flat _) r3)
    · rintro σ H2 ⟨o3, rfl, s2, l2⟩
      refine ⟨_, rfl, ?_⟩
      exact q L H2 s2 hL l2
end
theorem shF_le {B : Nat} {fs : List Fr} (h : BOk B fs) (r : List Nat) : (∀ x ∈ r, x < fs.length) → LowF (shF fs r) ∧ (shF fs r).1.natAbs ≤ 2 ^ (B * r.length) ∧ (shF fs r).2.natAbs ≤ 2 ^ (B * r.length) := by
  induction r using rev_ind with
  | h0 => intro _; exact ⟨⟨(by decide : (0 : Int) < 1), (by decide : Int.gcd 1 1 = 1)⟩, by show 1 ≤ _; exact Nat.one_le_two_pow, by show 1 ≤ _; exact Nat.one_le_two_pow⟩
  | hs r j ih =>
    intro hr
    obtain ⟨i1, i2, i3⟩ := ih fun x hx => hr x (List.mem_append_left _ hx)
    have hm := getD_mem fs j (0, 1) (hr j (by simp))
    have l2 := h.low _ hm
    have u2 := h.up _ hm
    have d2 := h.dn _ hm
    rw [shF_snoc]
    generalize fs.getD j (0, 1) = g at *
    generalize shF fs r = f at *
    have hp : 0 < f.2 * g.2 := Int.mul_pos i1.pos l2.pos
    obtain ⟨c1, c2⟩ := lw_le (n := f.1 * g.1) hp
    have c3 := (lw_low (n := f.1 * g.1) hp).pos
    refine ⟨mulF_low i1 l2, ?_, ?_⟩
    · show (lw (f.1 * g.1) (f.2 * g.2)).1.natAbs ≤ _
      refine Nat.le_trans c2 ?_
      rw [Int.natAbs_mul, List.length_append, List.length_singleton, Nat.mul_add, Nat.mul_one, Nat.pow_add]
      exact Nat.mul_le_mul i2 u2
    · show (lw (f.1 * g.1) (f.2 * g.2)).2.natAbs ≤ _
      have : (lw (f.1 * g.1) (f.2 * g.2)).2.natAbs ≤ (f.2 * g.2).natAbs := by omega
      refine Nat.le_trans this ?_
      rw [Int.natAbs_mul, List.length_append, List.length_singleton, Nat.mul_add, Nat.mul_one, Nat.pow_add]
      exact Nat.mul_le_mul i3 d2
/-- a fraction: tracked, or a constant of the text for good -/
def FrW (K : PySem.W.Frag) (H : Hp) (f : Fr) (x : V) : Prop := ∃ a, x = .ref a ∧ (H a = some (.tup [.int f.1, .int f.2]) ∨ ∀ H', SqT K H' a [.int f.1, .int f.2])
theorem FrW.v {K : PySem.W.Frag} {H : Hp} {f : Fr} {x : V} (h : FrW K H f x) : FrV K H f x := by
  obtain ⟨a, e, h⟩ := h
  rcases h with h | h
  · exact ⟨a, e, SqT.of h⟩
  · exact ⟨a, e, h H⟩
theorem FrW.t {K : PySem.W.Frag} {H H' : Hp} {f : Fr} {x : V} (s : SameT H H') (h : FrW K H f x) : FrW K H' f x := by
  obtain ⟨a, e, h⟩ := h
  rcases h with h | h
  · exact ⟨a, e, .inl (s _ _ h)⟩
  · exact ⟨a, e, .inr h⟩
@[irreducible] def sp_shof (K : PySem.W.Frag) : Sp := fun vs H Q _ => ∃ v rv fs ws w r, ∃ i : Nat, vs = [v, .int (i : Int), rv] ∧ Rep H (trD fs ws) v ∧ ws[i]? = some w ∧ Rep H (ctD r) rv ∧ BOk 10 w.2 ∧ r.length ≤ 60 ∧ (∀ x ∈ r, x < w.2.length) ∧ ∀ x H', Same H H' → FrW K H' (shF w.2 r) x → Q x H'
theorem sp_shof_i {K : PySem.W.Frag} {H : Hp} {Q : VK} {E : XK} {v rv : V} {fs : List Str} {ws : List (Str × List Fr)} {w : Str × List Fr} {r : List Nat} {i : Nat} (h : Rep H (trD fs ws) v) (hw : ws[i]? = some w) (hc : Rep H (ctD r) rv) (ok : BOk 10 w.2) (hl : r.length ≤ 60) (hr : ∀ x ∈ r, x < w.2.length) (q : ∀ x H', Same H H' → FrW K H' (shF w.2 r) x → Q x H') : sp_shof K [v, .int (i : Int), rv] H Q E := by unfold sp_shof; exact ⟨v, rv, fs, ws, w, r, i, rfl, h, hw, hc, ok, hl, hr, q⟩
section
variable {P : Program} {w : World} {K : PySem.W.Frag} {mg : Str → Option Value} {base : Heap} {c : Cl}
set_option maxHeartbeats 4000000 in
theorem ok_share_of {f : Addr} {fd : FuncData} (F : Fun K "share_of" "share_of" s_share_of f fd) (T : Txt K mg c)
    (F_way_shares : FnC CX0 P w K mg base 1 "way_shares" ["trial", "way"] sp_wsh) (F_times : FnC CX0 P w K mg base 2 "times" ["one", "other"] (sp_times K)) : FnOk P w K mg base CX0 3 f fd ["trial", "way", "row"] (sp_shof K) := by
  refine F.okw sc_share_of (fun vs H Q E h => ?_) (fun cdv A outer s H vs Q E hr h => ?_)
  · unfold sp_shof at h
    obtain ⟨v, rv, fs, ws, w, r, i, rfl, _⟩ := h
    rfl
  · unfold sp_shof at h
    obtain ⟨v, rv, fs, ws, w, r, j, rfl, h, hw, hc, ok, hl, hrr, q⟩ := h
    refine ⟨_, (wss_cons (ws_set (i := 3) sc_share_of.nd rfl (Or.inl rfl) (we_fn F_way_shares (hr.mono (by decide)) (wa_k (we_v 0) (wa_k (we_v 1) wa_nil))))
      (wss_cons (ws_set (i := 4) sc_share_of.nd rfl (Or.inl rfl) (we_glob (v := .ref c.ONE) rfl T.g_ONE rfl))
      (wss_cons (ws_for PassesOwn.never rfl (wi_tup (we_v 2)) (wg_name (i := 5) sc_share_of.nd rfl (Or.inl rfl)) (wss_one (ws_set (i := 4) sc_share_of.nd rfl (Or.inl rfl) (we_fn F_times (hr.mono (by decide)) (wa_k (we_v 4) (wa_k (we_ix ix_seq (we_v 3) (we_v 5) (fun _ _ => rfl)) wa_nil))))))
      (wss_one (ws_ret (we_v 4)))))), ?_⟩
    refine ⟨_, rfl, _, rfl, ?_⟩
    refine sp_wsh_i h hw fun x rx => ?_
    obtain ⟨l1, xs, rfl, h1, r1⟩ := tup_at rx
    obtain ⟨l2, ys, rfl, h2, r2⟩ := tup_at hc
    have hl2 := reps_len r2
    refine ⟨_, rfl, l2, rfl, ⟨_, SqT.of h2⟩, ?_⟩
    refine for_tup (xs := ys) (fun i σ H' => ∃ x o5, σ = [some v, some (.int (j : Int)), some (.ref l2), some (.ref l1), some x, o5] ∧ Same H H' ∧ FrW K H' (shF w.2 (r.take i)) x) ⟨_, _, rfl, Same.refl _, _, rfl, .inr fun H' => sqT_ints T.o_ONE⟩ (fun i σ H' _ p => ?_) ?_ ?_
    · obtain ⟨x, o5, _, s', _⟩ := p
      exact SqT.of (s' _ _ h2)
    · rintro i y σ H1 hy ⟨x, o5, rfl, s1, rx⟩
      obtain ⟨n, hn, rn⟩ := reps_get r2 hy
      cases (show y = V.int (n : Int) from rn)
      have hm := hrr n (List.mem_of_getElem? hn)
      have eg : w.2[n]? = some (w.2.getD n (0, 1)) := by rw [List.getD_eq_getElem?_getD, List.getElem?_eq_getElem hm]; rfl
      obtain ⟨u, hu, ru⟩ := reps_get' r1 eg
      have gm := getD_mem w.2 n (0, 1) hm
      obtain ⟨t1, t2, t3⟩ := shF_le ok (r.take i) fun x hx => hrr x (List.mem_of_mem_take hx)
      have tl : (r.take i).length ≤ 60 := by rw [List.length_take]; omega
      refine ⟨_, rfl, _, rfl, _, rfl, ?_⟩
      refine ixT (s1 _ _ h1) (atI_nat (j := n) hu) ?_
      refine sp_times_i rx.v (FrV.of (ru.same s1)) t1 (ok.low _ gm) (szf_of t2 t3 (by omega)) (szf_of (ok.up _ gm) (ok.dn _ gm) (by decide)) ?_
      intro q5 H5 hq5 e5 s5
      refine ⟨_, _, rfl, s1.trans s5, ?_⟩
      rw [take_snoc hn, shF_snoc]
      exact ⟨_, rfl, .inl e5⟩
    · rintro σ H1 ⟨x, o5, rfl, s1, rx⟩
      refine ⟨_, rfl, ?_⟩
      refine q _ H1 s1 ?_
      rw [hl2, List.take_length] at rx
      exact rx
end
end Kw
set_option Elab.async false
set_option linter.all false
set_option maxRecDepth 100000
namespace Kw
open PySem L2 Mf
@[irreducible] def sp_facesof : Sp := fun vs H Q _ => ∃ v fs ws, vs = [v] ∧ Rep H (trD fs ws) v ∧ Q (.int (fs.length : Nat)) H
theorem sp_facesof_i {H : Hp} {Q : VK} {E : XK} {v : V} {fs : List Str} {ws : List (Str × List Fr)} (h : Rep H (trD fs ws) v) (q : Q (.int (fs.length : Nat)) H) : sp_facesof [v] H Q E := by unfold sp_facesof; exact ⟨v, fs, ws, rfl, h, q⟩
@[irreducible] def sp_cntof : Sp := fun vs H Q _ => ∃ v x fs ws r, vs = [v, x] ∧ Rep H (trD fs ws) v ∧ Rep H (ctD r) x ∧ fs.length ≤ 4 ∧ ∀ y H', Same H H' → Rep H' (ctD (cnt fs.length r)) y → Q y H'
theorem sp_cntof_i {H : Hp} {Q : VK} {E : XK} {v x : V} {fs : List Str} {ws : List (Str × List Fr)} {r : List Nat} (h : Rep H (trD fs ws) v) (h2 : Rep H (ctD r) x) (h4 : fs.length ≤ 4) (q : ∀ y H', Same H H' → Rep H' (ctD (cnt fs.length r)) y → Q y H') : sp_cntof [v, x] H Q E := by unfold sp_cntof; exact ⟨v, x, fs, ws, r, rfl, h, h2, h4, q⟩
theorem nats_vals {H : Hp} : ∀ {ns : List Nat} {vs : List V}, RepL H (ns.map fun (n : Nat) => PyData.int (n : Int)) vs → vs = (ns.map fun (n : Nat) => (n : Int)).map V.int
  | [], _, h => h
  | n :: ns, _, h => by
    unfold RepL at h
    obtain ⟨x, xs, rfl, h1, h2⟩ := (show ∃ x xs, _ = x :: xs ∧ Rep H (.int (n : Int)) x ∧ RepL H (ns.map fun (n : Nat) => PyData.int (n : Int)) xs from h)
    cases (show x = V.int (n : Int) from h1)
    rw [nats_vals h2]; rfl
theorem count_cast (r : List Nat) (i : Nat) : (r.map fun (n : Nat) => (n : Int)).count (i : Int) = r.count i := by
  induction r with
  | nil => rfl
  | cons a r ih =>
    rw [List.map_cons, List.count_cons, List.count_cons, ih]
    congr 1
    by_cases e : a = i
    · subst e; simp
    · have : ¬ ((a : Int) = (i : Int)) := by omega
      simp [e, this]
theorem tyU {K : PySem.W.Frag} {H : Hp} {l : Addr} {xs : List V} (h : H l = some (.tup xs)) : tyV K "tuple" (.ref l) H := .inr (.inl ⟨rfl, .inr ⟨xs, h⟩⟩)
@[irreducible] def sp_longer : Sp := fun vs H Q _ => ∃ a rs, ∃ F : Nat, vs = [.ref a, .int (F : Int)] ∧ LsAt H a rs ∧ F ≤ 4 ∧ rs.length * F ≤ 900 ∧ (∀ r ∈ rs, r.length ≤ 60) ∧ ∀ b H', Same H H' → H b = none → LsAt H' b (rs.flatMap fun r => (List.range F).map fun j => r ++ [j]) → Q (.ref b) H'
theorem sp_longer_i {H : Hp} {Q : VK} {E : XK} {a : Addr} {rs : List (List Nat)} {F : Nat} (h : LsAt H a rs) (h4 : F ≤ 4) (hl : rs.length * F ≤ 900) (hr : ∀ r ∈ rs, r.length ≤ 60) (q : ∀ b H', Same H H' → H b = none → LsAt H' b (rs.flatMap fun r => (List.range F).map fun j => r ++ [j]) → Q (.ref b) H') : sp_longer [.ref a, .int (F : Int)] H Q E := by unfold sp_longer; exact ⟨a, rs, F, rfl, h, h4, hl, hr, q⟩
@[irreducible] def sp_rows : Sp := fun vs H Q _ => ∃ F n : Nat, vs = [.int (F : Int), .int (n : Int)] ∧ F ≤ 4 ∧ n ≤ 6 ∧ 1 ≤ F ∧ F ^ n ≤ 900 ∧ ∀ b H', Same H H' → H b = none → LsAt H' b (rowsN F n) → Q (.ref b) H'
theorem sp_rows_i {H : Hp} {Q : VK} {E : XK} {F n : Nat} (h4 : F ≤ 4) (hn : n ≤ 6) (h1 : 1 ≤ F) (hl : F ^ n ≤ 900) (q : ∀ b H', Same H H' → H b = none → LsAt H' b (rowsN F n) → Q (.ref b) H') : sp_rows [.int (F : Int), .int (n : Int)] H Q E := by unfold sp_rows; exact ⟨F, n, rfl, h4, hn, h1, hl, q⟩
theorem sum_const {α : Type} (F : Nat) : ∀ l : List α, (l.map fun _ => F).sum = l.length * F
  | [] => by simp
  | a :: l => by rw [List.map_cons, List.sum_cons, sum_const F l, List.length_cons, Nat.add_mul]; omega
theorem rowsN_len (F : Nat) : ∀ n : Nat, (rowsN F n).length = F ^ n
  | 0 => rfl
  | n + 1 => by
    show ((rowsN F n).flatMap fun r => (List.range F).map fun j => r ++ [j]).length = _
    rw [List.length_flatMap]
    have : (rowsN F n).map (fun r => ((List.range F).map fun j => r ++ [j]).length) = (rowsN F n).map fun _ => F := List.map_congr_left fun r _ => by simp
    rw [this, sum_const, rowsN_len F n, Nat.pow_succ]
section
variable {P : Program} {w : World} {K : PySem.W.Frag} {mg : Str → Option Value} {base : Heap} {c : Cl}
theorem ok_faces_of {f : Addr} {fd : FuncData} (F : Fun K "faces_of" "faces_of" s_faces_of f fd) (T : Txt K mg c) : FnOk P w K mg base CX0 1 f fd ["trial"] sp_facesof := by
  refine F.okw sc_faces_of (fun vs H Q E h => ?_) (fun cdv A outer s H vs Q E hr h => ?_)
  · unfold sp_facesof at h
    obtain ⟨v, fs, ws, rfl, _⟩ := h
    rfl
  · unfold sp_facesof at h
    obtain ⟨v, fs, ws, rfl, h, q⟩ := h
    obtain ⟨a, af, aw, xf, xw, rfl, ha, hf, hw, rf, rw'⟩ := tr_at h
    refine ⟨_, (wss_one (ws_ret (we_cB cl_len (by rfl) T.b_len (by decide +kernel) (wa_k (we_ix ix_seq (we_v 0) we_int (fun _ _ => rfl)) wa_nil)))), ?_⟩
    refine ⟨_, rfl, ?_⟩
    refine ixT ha rfl ?_
    refine rlT hf ?_
    rw [reps_len rf]
    exact q
theorem ok_counts_of {f : Addr} {fd : FuncData} (F : Fun K "counts_of" "counts_of" s_counts_of f fd) (T : Txt K mg c)
    (F_faces_of : FnC CX0 P w K mg base 1 "faces_of" ["trial"] sp_facesof) : FnOk P w K mg base CX0 2 f fd ["trial", "row"] sp_cntof := by
  refine F.okw sc_counts_of (fun vs H Q E h => ?_) (fun cdv A outer s H vs Q E hr h => ?_)
  · unfold sp_cntof at h
    obtain ⟨v, x, fs, ws, r, rfl, _⟩ := h
    rfl
  · unfold sp_cntof at h
    obtain ⟨v, x, fs, ws, r, rfl, h, rr, h4, q⟩ := h
    obtain ⟨a, xs, rfl, ha, rds⟩ := tup_at rr
    have exs := nats_vals rds
    subst exs
    refine ⟨_, (wss_one (ws_ret (we_cT call_tuple_of (by rfl) T.b_tuple (by decide +kernel) (wa_k (we_comp (CScope.of (psc := defScope s_counts_of) (N := ["trial", "row"]) (N' := ["face", "row"]) (js := [1]) (by decide +kernel) rfl rfl rfl) (wi_range1 rfl T.b_range (wa_k (we_fn F_faces_of (hr.mono (by decide)) (wa_k (we_v 0) wa_nil)) wa_nil)) (fun _ _ _ _ => wts_nil) (fun _ _ _ _ => (we_bmK K PySem.F.plainAttrs_tuple PySem.F.slot_tuple_count PySem.F.type_tuple_count mt_cnt (we_v 1) (wa_k (we_v 0) wa_nil)))) wa_nil)))), ?_⟩
    refine ⟨_, rfl, ?_⟩
    refine sp_facesof_i h ?_
    refine ⟨_, rfl, by omega, by omega, ?_⟩
    refine comp_mapR (fun i y _ => y = .int (r.count i : Nat)) (fun _ _ _ _ _ h => h) (by omega) (fun i H' Q' hi s' k' => ?_) (fun D ys H1 hD hD1 s1 hy hr1 => ?_)
    · refine ⟨_, rfl, tyU (s' _ _ ha), _, rfl, ?_⟩
      rw [show (0 : Int) + (i : Int) = (i : Int) by omega]
      refine cntT (s' _ _ ha) ?_
      rw [count_cast]
      exact k' _ H' (Same.refl _) rfl
    · refine ⟨D, ys, rfl, .inl ⟨SqL.of hD1, fun l hl => ?_⟩⟩
      have sl := Same.upd (o := .tup ys) hl
      have el : (upd H1 l (.tup ys)) l = some (.tup ys) := upd_same
      generalize upd H1 l (.tup ys) = H2 at sl el
      refine q _ H2 (s1.trans sl) (Rep.tup el (RepL.ofIdx (by rw [hy, List.length_map, cnt_len]; omega) fun i y hi => ?_))
      have hlt : i < fs.length := by
        obtain ⟨h1, _⟩ := List.getElem?_eq_some_iff.mp hi
        omega
      rw [hr1 i y hi]
      exact ⟨_, by rw [List.getElem?_map, cnt_get r hlt]; rfl, Rep.int _⟩
set_option maxHeartbeats 8000000 in
theorem ok__law_longer {f : Addr} {fd : FuncData} (F : Fun K "_law_longer" "_law_longer" s__law_longer f fd) (T : Txt K mg c) : FnOk P w K mg base CX0 1 f fd ["_law_rows_here", "_law_faces"] sp_longer := by
  refine F.okw sc__law_longer (fun vs H Q E h => ?_) (fun cdv A outer s H vs Q E hr h => ?_)
  · unfold sp_longer at h
    obtain ⟨a, rs, F, rfl, _⟩ := h
    rfl
  · unfold sp_longer at h
    obtain ⟨a, rs, F, rfl, l0, h4, hl, hlr, q⟩ := h
    obtain ⟨xs, e0, r0, lx⟩ := l0.len
    refine ⟨_, (wss_cons (ws_set (i := 2) sc__law_longer.nd rfl (Or.inl rfl) (we_lst wa_nil))
      (wss_cons (ws_for PassesOwn.never rfl (wi_list (we_v 0)) (wg_name (i := 3) sc__law_longer.nd rfl (Or.inr rfl)) (wss_one (ws_expr (we_bm PySem.F.plainAttrs_list PySem.F.slot_list_extend PySem.F.type_list_extend mt_ext (we_v 2) (wa_k (we_comp (CScope.of (psc := defScope s__law_longer) (N := ["_law_rows_here", "_law_faces", "_law_found", "_law_row"]) (N' := ["_law_face", "_law_row"]) (js := [3]) (by decide +kernel) rfl rfl rfl) (wi_range1 rfl T.b_range (wa_k (we_v 1) wa_nil)) (fun _ _ _ _ => wts_nil) (fun _ _ _ _ => (we_op (op_catU K) (we_v 1) (we_tup (wa_k (we_v 0) wa_nil))))) wa_nil)))))
      (wss_one (ws_ret (we_v 2))))), ?_⟩
    refine nwL (by show 0 ≤ 64; decide) fun L H1 hL e1 s1 => ?_
    refine ⟨_, rfl, a, rfl, ⟨_, SqL.of (s1 _ _ e0)⟩, ?_⟩
    refine for_list (xs := xs) (fun i σ H' => ∃ o3, σ = [some (.ref a), some (.int (F : Int)), some (.ref L), o3] ∧ Same H H' ∧ LsAt H' L ((rs.take i).flatMap fun r => (List.range F).map fun j => r ++ [j])) ⟨_, rfl, s1, [], e1, RepL.nil⟩ (fun i σ H' _ p => ?_) ?_ ?_
    · obtain ⟨o3, _, s', _⟩ := p
      exact SqL.of (s' _ _ e0)
    · rintro i x σ H2 hx ⟨o3, rfl, s2, vs, e2, r2⟩
      obtain ⟨r, hr', rr⟩ := reps_get r0 hx
      have hi : i < rs.length := (List.getElem?_eq_some_iff.mp hr').1
      have lv := reps_len r2
      have lv2 : vs.length ≤ i * F := by
        rw [lv, List.length_flatMap]
        have : (rs.take i).map (fun r => ((List.range F).map fun j => r ++ [j]).length) = (rs.take i).map fun _ => F := List.map_congr_left fun r _ => by simp
        rw [this, sum_const, List.length_take]
        exact Nat.mul_le_mul_right _ (Nat.min_le_left _ _)
      have hF : i * F + F ≤ 900 := by
        have := Nat.mul_le_mul_right F (show i + 1 ≤ rs.length from hi)
        rw [Nat.add_mul, Nat.one_mul] at this
        omega
      obtain ⟨ar, xr, rfl, har, rxr⟩ := tup_at (rr.same s2)
      have lr := reps_len rxr
      have lr2 := hlr r (List.mem_of_getElem? hr')
      refine ⟨_, rfl, tyL e2, _, rfl, _, rfl, by omega, by omega, ?_⟩
      refine comp_mapR (fun j y H' => Rep H' (ctD (r ++ [j])) y) (fun j y H1 H2 s h => h.flat s (ctD_flat _)) (by omega) (fun j H' Q' hj s' k' => ?_) (fun D ys H3 hD hD3 s3 hy hr3 => ?_)
      · refine ⟨_, rfl, _, rfl, ?_⟩
        refine nwT (by show 1 ≤ 64; decide) fun p4 H5 hp4 e4 s5 => ?_
        refine catU (s5 _ _ (s' _ _ har)) e4 (by simp only [List.length_cons, List.length_nil]; omega) fun p5 H6 s6 e6 => ?_
        refine k' _ H6 (s5.trans s6) (Rep.tup e6 ?_)
        rw [show (0 : Int) + (j : Int) = (j : Int) by omega, List.map_append]
        exact RepL.app (rxr.same ((s'.trans s5).trans s6)) (RepL.cons (Rep.int _) RepL.nil)
      · have hyF : ys.length = F := by omega
        refine extL (s3 _ _ e2) hD3 (by omega) fun H5 e5 s5 => ?_
        have t5 := s5.t (s3 _ _ e2)
        refine ⟨_, rfl, Same.thru hL (s2.trans s3) s5, vs ++ ys, e5, ?_⟩
        have ef : (rs.take (i + 1)).flatMap (fun r => (List.range F).map fun j => r ++ [j]) = (rs.take i).flatMap (fun r => (List.range F).map fun j => r ++ [j]) ++ (List.range F).map fun j => r ++ [j] := by
          rw [take_snoc hr', List.flatMap_append]
          simp
        rw [ef, List.map_append]
        refine RepL.app (RepL.flat t5 (cs_flat _) (r2.same s3)) (RepL.flat t5 (cs_flat _) ?_)
        refine RepL.ofIdx (by rw [hyF]; simp) fun j y hj => ?_
        have hlt : j < F := by
          obtain ⟨h1, _⟩ := List.getElem?_eq_some_iff.mp hj
          omega
        exact ⟨_, by rw [List.getElem?_map, List.getElem?_map, List.getElem?_range hlt]; rfl, hr3 j y hj⟩
    · rintro σ H2 ⟨o3, rfl, s2, l2⟩
      refine ⟨_, rfl, ?_⟩
      rw [lx, List.take_length] at l2
      exact q L H2 s2 hL l2
set_option maxHeartbeats 8000000 in
theorem ok__law_rows {f : Addr} {fd : FuncData} (F : Fun K "_law_rows" "_law_rows" s__law_rows f fd) (T : Txt K mg c) (F__law_longer : FnC CX0 P w K mg base 1 "_law_longer" ["_law_rows_here", "_law_faces"] sp_longer) : FnOk P w K mg base CX0 2 f fd ["_law_faces", "_law_many"] sp_rows := by
  refine F.okw sc__law_rows (fun vs H Q E h => ?_) (fun cdv A outer s H vs Q E hr h => ?_)
  · unfold sp_rows at h
    obtain ⟨F, n, rfl, _⟩ := h
    rfl
  · unfold sp_rows at h
    obtain ⟨F, n, rfl, h4, hn, h1, hl, q⟩ := h
    refine ⟨_, (wss_cons (ws_set (i := 2) sc__law_rows.nd rfl (Or.inl rfl) (we_lst (wa_k (we_tup wa_nil) wa_nil)))
      (wss_cons (ws_for PassesOwn.never rfl (wi_range1 rfl T.b_range (wa_k (we_v 1) wa_nil)) (wg_name (i := 3) sc__law_rows.nd rfl (Or.inl rfl)) (wss_one (ws_set (i := 2) sc__law_rows.nd rfl (Or.inl rfl) (we_fn F__law_longer (hr.mono (by decide)) (wa_k (we_v 2) (wa_k (we_v 0) wa_nil))))))
      (wss_one (ws_ret (we_v 2))))), ?_⟩
    refine nwT (by show 0 ≤ 64; decide) fun p0 H0 hp0 e0 s0 => ?_
    refine nwL (by show 1 ≤ 64; decide) fun L H1 hL e1 s1 => ?_
    refine ⟨_, rfl, _, rfl, by omega, by omega, ?_⟩
    rw [show ((n : Int)).toNat = n by omega]
    refine for_range (fun i σ H' => ∃ b o3, σ = [some (.int (F : Int)), some (.int (n : Int)), some (.ref b), o3] ∧ Same H H' ∧ H b = none ∧ LsAt H' b (rowsN F i)) ⟨L, _, rfl, s0.trans s1, s0.free hL, _, e1, RepL.cons (Rep.tup (s1 _ _ e0) RepL.nil) RepL.nil⟩ ?_ ?_
    · rintro i σ H2 hi ⟨b, o3, rfl, s2, hb, l2⟩
      refine ⟨_, rfl, _, rfl, ?_⟩
      refine sp_longer_i l2 h4 ?_ (fun r hr' => ?_) fun b2 H3 s3 hb2 l3 => ?_
      · rw [rowsN_len, ← Nat.pow_succ]
        exact Nat.le_trans (Nat.pow_le_pow_right h1 (by omega)) hl
      · have := (rowsN_mem hr').1
        omega
      · exact ⟨b2, _, rfl, s2.trans s3, s2.free hb2, l3⟩
    · rintro σ H2 ⟨b, o3, rfl, s2, hb, l2⟩
      refine ⟨_, rfl, ?_⟩
      exact q b H2 s2 hb l2
end
end Kw
set_option Elab.async false
set_option linter.all false
set_option maxRecDepth 100000
namespace Kw
open PySem L2 Mf
structure ShowOk (d : PyData) : Prop where
  sh : d.showable = true
  nd : d.hasDict = false
  dp : d.depth ≤ 60
  ln : d.shown.length ≤ sizeLine
theorem fr_show {f : Fr} (h : Szf 1062 f) : PyData.showable (frD f) = true := by
  show (PyData.showable (.int f.1) && (PyData.showable (.int f.2) && true)) = true
  rw [showInt h.1, showInt h.2]; rfl
theorem frs_show : ∀ {fs : List Fr}, (∀ f ∈ fs, Szf 1062 f) → PyData.showableAll (fs.map frD) = true
  | [], _ => rfl
  | f :: fs, h => by show (PyData.showable (frD f) && PyData.showableAll (fs.map frD)) = true; rw [fr_show (h f (by simp)), frs_show fun g hg => h g (List.mem_cons_of_mem _ hg)]; rfl
theorem frs_dict : ∀ fs : List Fr, PyData.hasDictAll (fs.map frD) = false
  | [] => rfl
  | f :: fs => by show (PyData.hasDict (frD f) || PyData.hasDictAll (fs.map frD)) = false; rw [frs_dict fs]; rfl
theorem frs_depth : ∀ fs : List Fr, PyData.depthAll (fs.map frD) ≤ 3
  | [] => by decide
  | f :: fs => by
    have := frs_depth fs
    have e : PyData.depth (frD f) ≤ 3 := by simp [PyData.depth, PyData.depthAll]
    show max (PyData.depth (frD f)) (PyData.depthAll (fs.map frD)) ≤ 3
    omega
theorem frs_shW : ∀ fs : List Fr, shWs (fs.map frD) = fs.length * 3852
  | [] => rfl
  | f :: fs => by
    show shW (frD f) + 2 + shWs (fs.map frD) = (fs.length + 1) * 3852
    rw [frs_shW fs, show shW (frD f) = 3850 from rfl]
    omega
theorem sh_show {fs : List Fr} (h : ∀ f ∈ fs, Szf 1062 f) (hl : fs.length ≤ 64) : ShowOk (shD fs) := by
  have h1 : PyData.showable (shD fs) = true := frs_show h
  have h2 : PyData.hasDict (shD fs) = false := frs_dict fs
  refine ⟨h1, h2, ?_, Nat.le_trans (shown_le _ h1 h2) ?_⟩
  · have := frs_depth fs
    show PyData.depthAll (fs.map frD) + 1 ≤ 60
    omega
  · show shWs (fs.map frD) + 4 ≤ sizeLine
    rw [frs_shW]
    exact Nat.le_trans (show fs.length * 3852 + 4 ≤ 64 * 3852 + 4 by omega) (by decide)
theorem rrS {H : Hp} {Q : VK} {x : V} {d : PyData} (r : Rep H d x) (h : ShowOk d) (q : Q (.str d.shown) H) : rRepr [x] H Q := rrI r h.sh h.nd h.dp h.ln q
theorem flt_all (F n : Nat) : ((List.range (n + 1)).flatMap (cta F)).filter (fun c => decide (c.sum = n)) = cta F n := by
  rw [flat_snoc, List.filter_append]
  have e1 : ((List.range n).flatMap (cta F)).filter (fun c => decide (c.sum = n)) = [] := by
    rw [List.filter_eq_nil_iff]
    intro c hc
    obtain ⟨k, hk, hc⟩ := List.mem_flatMap.mp hc
    have := (cta_mem hc).2
    have hk := List.mem_range.mp hk
    simp
    omega
  have e2 : (cta F n).filter (fun c => decide (c.sum = n)) = cta F n := List.filter_eq_self.mpr fun c hc => decide_eq_true (cta_mem hc).2
  rw [e1, e2]; rfl
theorem int2 (B : Nat) : (2 : Int) ^ B = ((2 ^ B : Nat) : Int) := by rw [Int.natCast_pow]; rfl
def FnOk2 (F n : Nat) : Prop := (F = 2 ∧ n ≤ 5) ∨ (F = 3 ∧ n ≤ 4) ∨ (F = 4 ∧ n ≤ 3)
theorem sz_rows {F n : Nat} (h : FnOk2 F n) : 10 * n * F ^ n + 10 * n + F ^ n ≤ 3900 := by
  have k2 : ∀ n, n ≤ 5 → 10 * n * 2 ^ n + 10 * n + 2 ^ n ≤ 3900 := by decide
  have k3 : ∀ n, n ≤ 4 → 10 * n * 3 ^ n + 10 * n + 3 ^ n ≤ 3900 := by decide
  have k4 : ∀ n, n ≤ 3 → 10 * n * 4 ^ n + 10 * n + 4 ^ n ≤ 3900 := by decide
  rcases h with ⟨rfl, h⟩ | ⟨rfl, h⟩ | ⟨rfl, h⟩
  · exact k2 n h
  · exact k3 n h
  · exact k4 n h
theorem pw_rows {F n : Nat} (h : FnOk2 F n) : F ^ n ≤ 900 ∧ n ≤ 5 ∧ 1 ≤ F ∧ F ≤ 4 := by
  have k2 : ∀ n, n ≤ 5 → 2 ^ n ≤ 900 := by decide
  have k3 : ∀ n, n ≤ 4 → 3 ^ n ≤ 900 := by decide
  have k4 : ∀ n, n ≤ 3 → 4 ^ n ≤ 900 := by decide
  rcases h with ⟨rfl, h⟩ | ⟨rfl, h⟩ | ⟨rfl, h⟩
  · exact ⟨k2 n h, by omega, by omega, by omega⟩
  · exact ⟨k3 n h, by omega, by omega, by omega⟩
  · exact ⟨k4 n h, by omega, by omega, by omega⟩
theorem rows_B {F n : Nat} {fs : List Fr} (ok : ShOk F fs) (h : FnOk2 F n) : FsB (10 * n) ((rowsN F n).map (shF fs)) := by
  have key : ∀ f ∈ (rowsN F n).map (shF fs), LowF f ∧ f.1.natAbs ≤ 2 ^ (10 * n) ∧ f.2.natAbs ≤ 2 ^ (10 * n) := fun f hf => by
    obtain ⟨r, hr, rfl⟩ := List.mem_map.mp hf
    obtain ⟨h1, h2⟩ := rowsN_mem hr
    have := shF_le ok.b r fun x hx => by rw [ok.len]; exact h2 x hx
    rwa [h1] at this
  refine ⟨fun f hf => (key f hf).1, fun f hf => (key f hf).2.1, fun f hf => ?_, ?_⟩
  · have := (key f hf).2.2
    have := (key f hf).1.pos
    rw [int2]; omega
  · rw [List.length_map, rowsN_len]; exact sz_rows h
theorem mN_7 {c : List Nat} (h : c.sum ≤ 5) : mN c ≤ 2 ^ 7 := by
  have k : ∀ n, n ≤ 5 → fac n ≤ 2 ^ 7 := by decide
  exact Nat.le_trans (mN_le c) (k _ h)
theorem zip_sum_all {α : Type} (l : List α) (cs : List Nat) : ((l.zip cs).map (·.2)).sum ≤ cs.sum := by
  have := zip_sum l cs (l.zip cs).length
  rwa [List.take_length] at this
theorem wgt_le {F : Nat} {fs : List Fr} (ok : ShOk F fs) {c : List Nat} (h : c.sum ≤ 5) : LowF (wgtF (fs.zip c)) ∧ (wgtF (fs.zip c)).1.natAbs ≤ 2 ^ 50 ∧ (wgtF (fs.zip c)).2.natAbs ≤ 2 ^ 50 ∧ (wgtN (fs.zip c)).1.natAbs ≤ 2 ^ 50 ∧ (wgtN (fs.zip c)).2.natAbs ≤ 2 ^ 50 := by
  have zl : ∀ z ∈ fs.zip c, LowF z.1 := fun z hz => ok.low _ (List.of_mem_zip (a := z.1) (b := z.2) hz).1
  have zb : ∀ z ∈ fs.zip c, z.1.1.natAbs ≤ 2 ^ 10 ∧ z.1.2.natAbs ≤ 2 ^ 10 := fun z hz => ⟨ok.b.up _ (List.of_mem_zip (a := z.1) (b := z.2) hz).1, ok.b.dn _ (List.of_mem_zip (a := z.1) (b := z.2) hz).1⟩
  obtain ⟨b1, b2⟩ := wgtF_le _ zl zb
  obtain ⟨b3, b4⟩ := wgtN_le _ zb
  have hs := zip_sum_all fs c
  have e : 2 ^ (10 * ((fs.zip c).map (·.2)).sum) ≤ 2 ^ 50 := Nat.pow_le_pow_right (by decide) (by omega)
  exact ⟨wgtF_low _ zl, Nat.le_trans b1 e, Nat.le_trans b2 e, Nat.le_trans b3 e, Nat.le_trans b4 e⟩
theorem mulF_le {f g : Fr} {n m : Nat} (h1 : LowF f) (h2 : LowF g) (a1 : f.1.natAbs ≤ 2 ^ n) (a2 : f.2.natAbs ≤ 2 ^ n) (b1 : g.1.natAbs ≤ 2 ^ m) (b2 : g.2.natAbs ≤ 2 ^ m) : LowF (mulF f g) ∧ (mulF f g).1.natAbs ≤ 2 ^ (n + m) ∧ (mulF f g).2.natAbs ≤ 2 ^ (n + m) := by
  have hp : 0 < f.2 * g.2 := Int.mul_pos h1.pos h2.pos
  obtain ⟨c1, c2⟩ := lw_le (n := f.1 * g.1) hp
  have c3 := (lw_low (n := f.1 * g.1) hp).pos
  refine ⟨mulF_low h1 h2, ?_, ?_⟩
  · show (lw (f.1 * g.1) (f.2 * g.2)).1.natAbs ≤ _
    refine Nat.le_trans c2 ?_
    rw [Int.natAbs_mul, Nat.pow_add]
    exact Nat.mul_le_mul a1 b1
  · show (lw (f.1 * g.1) (f.2 * g.2)).2.natAbs ≤ _
    have : (lw (f.1 * g.1) (f.2 * g.2)).2.natAbs ≤ (f.2 * g.2).natAbs := by omega
    refine Nat.le_trans this ?_
    rw [Int.natAbs_mul, Nat.pow_add]
    exact Nat.mul_le_mul a2 b2
theorem m1_low (k : Nat) : LowF (((k : Nat) : Int), 1) := ⟨(by decide : (0 : Int) < 1), Int.gcd_one_right _⟩
def ptF (fs : List Fr) (c : List Nat) : Fr := mulF (((mN c : Nat) : Int), 1) (wgtF (fs.zip c))
theorem ptF_le {F : Nat} {fs : List Fr} (ok : ShOk F fs) {c : List Nat} (h : c.sum ≤ 5) : LowF (ptF fs c) ∧ (ptF fs c).1.natAbs ≤ 2 ^ 57 ∧ (ptF fs c).2.natAbs ≤ 2 ^ 57 := by
  obtain ⟨w1, w2, w3, _⟩ := wgt_le ok h
  exact mulF_le (n := 7) (m := 50) (m1_low _) w1 (by show ((mN c : Nat) : Int).natAbs ≤ _; rw [Int.natAbs_natCast]; exact mN_7 h) (by show 1 ≤ _; decide) w2 w3
theorem cta_B {F n : Nat} {fs : List Fr} (ok : ShOk F fs) (h4 : F ≤ 4) (hn : n ≤ 5) : FsB 64 ((cta F n).map (ptF fs)) := by
  have key : ∀ f ∈ (cta F n).map (ptF fs), LowF f ∧ f.1.natAbs ≤ 2 ^ 64 ∧ f.2.natAbs ≤ 2 ^ 64 := fun f hf => by
    obtain ⟨c, hc, rfl⟩ := List.mem_map.mp hf
    obtain ⟨a, b, d⟩ := ptF_le ok (c := c) (by rw [(cta_mem hc).2]; exact hn)
    have e : 2 ^ 57 ≤ 2 ^ 64 := by decide
    exact ⟨a, Nat.le_trans b e, Nat.le_trans d e⟩
  refine ⟨fun f hf => (key f hf).1, fun f hf => (key f hf).2.1, fun f hf => ?_, ?_⟩
  · have := (key f hf).2.2
    have := (key f hf).1.pos
    rw [int2]; omega
  · rw [List.length_map]
    have := cta_small F h4 n hn
    omega
/-- one way's part of what is found, over some counts -/
def trm (m : Fr) (fs : List Fr) (c : List Nat) : Fr := lw ((mN c : Nat) * (m.1 * (wgtN (fs.zip c)).1)) (m.2 * (wgtN (fs.zip c)).2)
def accF (m : Fr) (fs : List Fr) (cs : List (List Nat)) : Fr := totF (cs.map (trm m fs))
theorem trm_le {F n : Nat} {m : Fr} {ms fs : List Fr} (okm : ShOk n ms) (hm : m ∈ ms) (ok : ShOk F fs) {c : List Nat} (h : c.sum ≤ 5) : LowF (trm m fs c) ∧ (trm m fs c).1.natAbs ≤ 2 ^ 67 ∧ (trm m fs c).2.natAbs ≤ 2 ^ 67 := by
  obtain ⟨w1, w2, w3, w4, w5⟩ := wgt_le ok h
  have zl : ∀ z ∈ fs.zip c, LowF z.1 := fun z hz => ok.low _ (List.of_mem_zip (a := z.1) (b := z.2) hz).1
  have hp : 0 < m.2 * (wgtN (fs.zip c)).2 := Int.mul_pos (okm.low _ hm).pos (wgtN_pos _ zl)
  obtain ⟨c1, c2⟩ := lw_le (n := (mN c : Nat) * (m.1 * (wgtN (fs.zip c)).1)) hp
  have c3 := (lw_low (n := (mN c : Nat) * (m.1 * (wgtN (fs.zip c)).1)) hp).pos
  refine ⟨lw_low hp, ?_, ?_⟩
  · unfold trm
    refine Nat.le_trans c2 ?_
    rw [Int.natAbs_mul, Int.natAbs_mul, Int.natAbs_natCast]
    exact Nat.le_trans (Nat.mul_le_mul (mN_7 h) (Nat.mul_le_mul (okm.b.up _ hm) w4)) (by decide)
  · unfold trm
    have e : (m.2 * (wgtN (fs.zip c)).2).natAbs ≤ 2 ^ 67 := by
      rw [Int.natAbs_mul]
      exact Nat.le_trans (Nat.mul_le_mul (okm.b.dn _ hm) w5) (by decide)
    generalize lw ((mN c : Nat) * (m.1 * (wgtN (fs.zip c)).1)) (m.2 * (wgtN (fs.zip c)).2) = z at *
    omega
theorem acc_B {F n N : Nat} {m : Fr} {ms fs : List Fr} (okm : ShOk N ms) (hm : m ∈ ms) (ok : ShOk F fs) (h4 : F ≤ 4) (hn : n ≤ 5) (i : Nat) : FsB 67 (((cta F n).take i).map (trm m fs)) := by
  have key : ∀ f ∈ ((cta F n).take i).map (trm m fs), LowF f ∧ f.1.natAbs ≤ 2 ^ 67 ∧ f.2.natAbs ≤ 2 ^ 67 := fun f hf => by
    obtain ⟨c, hc, rfl⟩ := List.mem_map.mp hf
    exact trm_le okm hm ok (by rw [(cta_mem (List.mem_of_mem_take hc)).2]; exact hn)
  refine ⟨fun f hf => (key f hf).1, fun f hf => (key f hf).2.1, fun f hf => ?_, ?_⟩
  · have := (key f hf).2.2
    have := (key f hf).1.pos
    rw [int2]; omega
  · rw [List.length_map, List.length_take]
    have := cta_small F h4 n hn
    omega
theorem acc_snoc (m : Fr) (fs : List Fr) (cs : List (List Nat)) (c : List Nat) : accF m fs (cs ++ [c]) = addF (accF m fs cs) (trm m fs c) := by
  unfold accF
  rw [List.map_append]
  exact totF_snoc _ _
theorem add_zero {f : Fr} (h : LowF f) : addF f (0, 1) = f := by
  show lw (f.1 * 1 + 0 * f.2) (f.2 * 1) = f
  rw [Int.mul_one, Int.zero_mul, Int.add_zero, Int.mul_one]
  exact lw_self h
theorem term_eq {g : Fr} {W S : Int} {k : Nat} (hb : 0 < g.2) (hW : 0 < W) (hS : 0 < S) (hd : g.2 ∣ W) : mulF (lw (g.1 * (W / g.2)) S) (mulF (lw S W) (((k : Nat) : Int), 1)) = lw ((k : Int) * g.1) g.2 := by
  have e1 : (((k : Nat) : Int), (1 : Int)) = lw (k : Int) 1 := (lw_self (m1_low k)).symm
  rw [e1, mul_lw hW (by decide), Int.mul_one, mul_lw hS hW]
  obtain ⟨q, rfl⟩ := hd
  rw [Int.mul_ediv_cancel_left _ (by omega)]
  refine lw_congr (Int.mul_pos hS hW) hb ?_
  ac_rfl
theorem zero_part {l : List Fr} (hp : ∀ f ∈ l, 0 ≤ f.1 ∧ 0 < f.2) (h0 : sumN l (Mf.whole l) = 0) {g : Fr} (hg : g ∈ l) : g.1 = 0 := by
  have hw := whole_posD l fun f hf => (hp f hf).2
  have nn : ∀ n ∈ l.map (fun f => f.1 * (Mf.whole l / f.2)), 0 ≤ n := fun n hn => by
    obtain ⟨f, hf, rfl⟩ := List.mem_map.mp hn
    exact Int.mul_nonneg (hp f hf).1 (ediv_le_self hw (hp f hf).2).1
  have h1 := sum_mem nn (List.mem_map_of_mem (f := fun f : Fr => f.1 * (Mf.whole l / f.2)) hg)
  have h2 := nn _ (List.mem_map_of_mem (f := fun f : Fr => f.1 * (Mf.whole l / f.2)) hg)
  have h3 : g.1 * (Mf.whole l / g.2) = 0 := by
    have : (l.map fun f => f.1 * (Mf.whole l / f.2)).sum = 0 := h0
    omega
  have h4 : 0 < Mf.whole l / g.2 := by
    obtain ⟨q, hq⟩ := whole_dvd l g hg
    have hg2 := (hp g hg).2
    rw [hq, Int.mul_ediv_cancel_left _ (by omega)]
    rw [hq] at hw
    exact Int.pos_of_mul_pos_right hw hg2
  rcases Int.mul_eq_zero.mp h3 with h | h
  · exact h
  · omega
theorem ct_eqvA : ∀ a b : List Nat, PyData.eqvAll (a.map fun (n : Nat) => PyData.int (n : Int)) (b.map fun (n : Nat) => PyData.int (n : Int)) = decide (a = b)
  | [], [] => by simp [PyData.eqvAll]
  | [], _ :: _ => by simp [PyData.eqvAll]
  | _ :: _, [] => by simp [PyData.eqvAll]
  | x :: a, y :: b => by
    have ih := ct_eqvA a b
    rw [List.map_cons, List.map_cons]
    show (PyData.eqv (.int (x : Int)) (.int (y : Int)) && PyData.eqvAll _ _) = _
    rw [ih]
    have e : PyData.eqv (.int (x : Int)) (.int (y : Int)) = decide (x = y) := by
      show decide ((x : Int) = (y : Int)) = _
      exact decide_eq_decide.mpr ⟨fun h => by omega, fun h => by rw [h]⟩
    rw [e]
    by_cases h : x = y <;> by_cases h' : a = b <;> simp [h, h']
theorem ct_eqv (a b : List Nat) : PyData.eqv (ctD a) (ctD b) = decide (a = b) := ct_eqvA a b
theorem ct_lay : ∀ a : List Nat, PyData.canLayAll0 (a.map fun (n : Nat) => PyData.int (n : Int)) = true
  | [] => rfl
  | x :: a => by
    show (PyData.canLay0 (.int (x : Int)) && PyData.canLayAll0 (a.map fun (n : Nat) => PyData.int (n : Int))) = true
    rw [ct_lay a]; rfl
theorem ct_depth : ∀ a : List Nat, PyData.depthAll (a.map fun (n : Nat) => PyData.int (n : Int)) = 0
  | [] => rfl
  | x :: a => by
    show max 0 (PyData.depthAll (a.map fun (n : Nat) => PyData.int (n : Int))) = 0
    rw [ct_depth a]; rfl
theorem ct_shaped (a : List Nat) : SeqAt.shaped (ctD a) = true := by
  unfold SeqAt.shaped
  rw [Bool.and_eq_true]
  refine ⟨ct_lay a, decide_eq_true ?_⟩
  show PyData.depthAll (a.map fun (n : Nat) => PyData.int (n : Int)) + 1 ≤ 64
  rw [ct_depth]; decide
theorem flt_len {F n : Nat} {c : List Nat} (hl : c.length = F) (hs : c.sum = n) : ((rowsN F n).filter fun r => decide (cnt F r = c)).length = mN c := by
  have h := nr_eq hl hs
  have key : ∀ l : List (List Nat), sm l (fun r => if cnt F r = c then 1 else 0) = ((l.filter fun r => decide (cnt F r = c)).length : Nat) := by
    intro l
    induction l with
    | nil => rfl
    | cons r l ih =>
      rw [sm_cons, ih]
      by_cases e : cnt F r = c
      · rw [if_pos e, List.filter_cons_of_pos (by simpa using e), List.length_cons]; omega
      · rw [if_neg e, List.filter_cons_of_neg (by simpa using e)]; omega
  have h2 := key (rowsN F n)
  unfold nr at h
  rw [h2] at h
  omega
end Kw
set_option Elab.async false
set_option linter.all false
set_option maxRecDepth 100000
namespace Kw
open PySem L2 Mf
structure St0 (H : Hp) (av R S : Addr) (mv : V) (fs : List Str) (ws : List (Str × List Fr)) (ms : List Fr) (n : Nat) : Prop where
  rv : Rep H (trD fs ws) (.ref av)
  rm : Rep H (shD ms) mv
  lr : LsAt H R (rowsN fs.length n)
  ls : LsAt H S (cta fs.length n)
theorem St0.same {H H' : Hp} {av R S : Addr} {mv : V} {fs : List Str} {ws : List (Str × List Fr)} {ms : List Fr} {n : Nat} (h : St0 H av R S mv fs ws ms n) (s : Same H H') : St0 H' av R S mv fs ws ms n :=
  ⟨h.rv.same s, h.rm.same s, h.lr.same s, h.ls.same s⟩
theorem sum_cast : ∀ c : List Nat, (c.map fun (n : Nat) => (n : Int)).sum = ((c.sum : Nat) : Int)
  | [] => rfl
  | a :: c => by rw [List.map_cons, List.sum_cons, List.sum_cons, sum_cast c]; omega
theorem dec_int {a b : Nat} : decide (V.int (a : Int) = V.int (b : Int)) = decide (a = b) := decide_eq_decide.mpr ⟨fun h => by injection h with h; omega, fun h => by rw [h]⟩
theorem one_eqv : (false == PyData.eqv (frD (1, 1)) (frD (1, 1))) = false := by rw [show PyData.eqv (frD (1, 1)) (frD (1, 1)) = true from by decide]; rfl
theorem rows_small {F n : Nat} (h : FnOk2 F n) : (rowsN F n).length ≤ 900 := by rw [rowsN_len]; exact (pw_rows h).1
section
variable {P : Program} {w : World} {K : PySem.W.Frag} {mg : Str → Option Value} {base : Heap} {c : Cl}
set_option maxHeartbeats 32000000 in
theorem ok_law {f : Addr} {fd : FuncData} (F : Fun K "law" "law" s_law f fd) (T : Txt K mg c)
    (F__law_feed : FnC CX0 P w K mg base 1 "_law_feed" ["_law_script"] (sp_feed K)) (F__law_draw : FnC CX0 P w K mg base 1 "_law_draw" ["_law_feed_here", "_law_many"] sp_draw) (F__law_shares : FnC CX0 P w K mg base 2 "_law_shares" ["_law_feed_here", "_law_many"] sp_shares) (F__law_trial : FnC CX0 P w K mg base 3 "_law_trial" ["_law_feed_here"] sp_trial)
    (F__law_rows : FnC CX0 P w K mg base 2 "_law_rows" ["_law_faces", "_law_many"] sp_rows) (F_all_counts : FnC CX0 P w K mg base 6 "all_counts" ["faces", "most"] sp_allc) (F_total : FnC CX0 P w K mg base 3 "total" ["some"] (sp_total K)) (F_share_of : FnC CX0 P w K mg base 3 "share_of" ["trial", "way", "row"] (sp_shof K))
    (F_times : FnC CX0 P w K mg base 2 "times" ["one", "other"] (sp_times K)) (F_rows_to : FnC CX0 P w K mg base 1 "rows_to" ["counts"] sp_rowsto) (F_weight : FnC CX0 P w K mg base 3 "weight" ["trial", "way", "counts"] (sp_weight K)) (F_counts_of : FnC CX0 P w K mg base 2 "counts_of" ["trial", "row"] sp_cntof)
    (F_ways_behind : FnC CX0 P w K mg base 4 "ways_behind" ["trial", "mix", "counts"] sp_behind) (F_plus : FnC CX0 P w K mg base 2 "plus" ["one", "other"] (sp_plus K)) :
    FnOk P w K mg base CX0 7 f fd ["_law_script"] (sp_law K) := by
  refine F.okw sc_law (fun vs H Q E h => ?_) (fun cdv A outer s H vs Q E hr h => ?_)
  · unfold sp_law at h
    obtain ⟨a, ns, rfl, _⟩ := h
    rfl
  · unfold sp_law at h
    obtain ⟨a, ns, rfl, hS, hl, k⟩ := h
    refine ⟨_, (wss_cons (ws_set (i := 1) sc_law.nd rfl (Or.inl rfl) (we_fn F__law_feed (hr.mono (by decide)) (wa_k (we_v 0) wa_nil)))
      (wss_cons (ws_set (i := 2) sc_law.nd rfl (Or.inr rfl) (we_fn F__law_trial (hr.mono (by decide)) (wa_k (we_v 1) wa_nil)))
      (wss_cons (ws_set (i := 3) sc_law.nd rfl (Or.inr rfl) (we_fn F__law_shares (hr.mono (by decide)) (wa_k (we_v 1) (wa_k (we_cB cl_len (by rfl) T.b_len (by decide +kernel) (wa_k (we_ix ix_seq (we_v 2) we_int (fun _ _ => rfl)) wa_nil)) wa_nil))))
      (wss_cons (ws_set (i := 4) sc_law.nd rfl (Or.inl rfl) (we_cB cl_len (by rfl) T.b_len (by decide +kernel) (wa_k (we_ix ix_seq (we_v 2) we_int (fun _ _ => rfl)) wa_nil)))
      (wss_cons (ws_set (i := 5) sc_law.nd rfl (Or.inr rfl) (we_fn F__law_draw (hr.mono (by decide)) (wa_k (we_v 1) (wa_k (we_ix ix_seq (we_lst (wa_k we_int (wa_k we_int (wa_k we_int wa_nil)))) (we_op op_sub (we_v 4) we_int) (fun _ _ => rfl)) wa_nil))))
      (wss_cons (ws_set (i := 6) sc_law.nd rfl (Or.inl rfl) (we_fn F__law_rows (hr.mono (by decide)) (wa_k (we_v 4) (wa_k (we_v 5) wa_nil))))
      (wss_cons (ws_setComp (i := 7) (CScope.of (psc := defScope s_law) (N := ["_law_script", "_law_feed_here", "_law_trial_here", "_law_mix", "_law_faces", "_law_many", "_law_rows_here", "_law_some", "_law_way", "_law_parts", "_law_counts", "_law_found", "_law_shares_here", "_law_shown"]) (N' := ["_law_counts", "_law_many"]) (js := [5]) (by decide +kernel) rfl rfl rfl) sc_law.nd rfl rfl (wi_list (we_fn F_all_counts (hr.mono (by decide)) (wa_k (we_v 4) (wa_k (we_v 5) wa_nil)))) (fun _ _ _ _ => wts_one (wt_cmp op_eq (we_cB (cl_sumT K rfl) (by rfl) T.b_sum (by decide +kernel) (wa_k (we_v 0) wa_nil)) (we_v 1) (nomark _))) (fun _ _ _ _ => (we_v 0)))
      (wss_cons (ws_for PassesOwn.never rfl (wi_range1 rfl T.b_range (wa_k (we_cB cl_len (by rfl) T.b_len (by decide +kernel) (wa_k (we_ix ix_seq (we_v 2) we_int (fun _ _ => rfl)) wa_nil)) wa_nil)) (wg_name (i := 8) sc_law.nd rfl (Or.inr rfl)) (wss_cons (ws_if (wt_cmp (op_neD hr.units) (we_fn F_total (hr.mono (by decide)) (wa_k (we_comp (CScope.of (psc := defScope s_law) (N := ["_law_script", "_law_feed_here", "_law_trial_here", "_law_mix", "_law_faces", "_law_many", "_law_rows_here", "_law_some", "_law_way", "_law_parts", "_law_counts", "_law_found", "_law_shares_here", "_law_shown"]) (N' := ["_law_row", "_law_trial_here", "_law_way"]) (js := [2, 8]) (by decide +kernel) rfl rfl rfl) (wi_list (we_v 6)) (fun _ _ _ _ => wts_nil) (fun _ _ _ _ => (we_fn F_share_of (hr.mono (by decide)) (wa_k (we_v 1) (wa_k (we_v 2) (wa_k (we_v 0) wa_nil)))))) wa_nil)) (we_tup (wa_k we_int (wa_k we_int wa_nil))) (nomark _)) (wss_one (ws_ret we_bl)) wss_nil)
      (wss_cons (ws_setComp (i := 9) (CScope.of (psc := defScope s_law) (N := ["_law_script", "_law_feed_here", "_law_trial_here", "_law_mix", "_law_faces", "_law_many", "_law_rows_here", "_law_some", "_law_way", "_law_parts", "_law_counts", "_law_found", "_law_shares_here", "_law_shown"]) (N' := ["_law_counts", "_law_trial_here", "_law_way"]) (js := [2, 8]) (by decide +kernel) rfl rfl rfl) sc_law.nd rfl rfl (wi_list (we_v 7)) (fun _ _ _ _ => wts_nil) (fun _ _ _ _ => (we_fn F_times (hr.mono (by decide)) (wa_k (we_tup (wa_k (we_fn F_rows_to (hr.mono (by decide)) (wa_k (we_v 0) wa_nil)) (wa_k we_int wa_nil))) (wa_k (we_fn F_weight (hr.mono (by decide)) (wa_k (we_v 1) (wa_k (we_v 2) (wa_k (we_v 0) wa_nil)))) wa_nil)))))
      (wss_one (ws_if (wt_cmp (op_neD hr.units) (we_fn F_total (hr.mono (by decide)) (wa_k (we_v 9) wa_nil)) (we_tup (wa_k we_int (wa_k we_int wa_nil))) (nomark _)) (wss_one (ws_ret we_bl)) wss_nil)))))
      (wss_cons (ws_for PassesOwn.never rfl (wi_list (we_v 7)) (wg_name (i := 10) sc_law.nd rfl (Or.inr rfl)) (wss_one (ws_if (wt_cmp op_ne (we_cB cl_len (by rfl) T.b_len (by decide +kernel) (wa_k (we_comp (CScope.of (psc := defScope s_law) (N := ["_law_script", "_law_feed_here", "_law_trial_here", "_law_mix", "_law_faces", "_law_many", "_law_rows_here", "_law_some", "_law_way", "_law_parts", "_law_counts", "_law_found", "_law_shares_here", "_law_shown"]) (N' := ["_law_row", "_law_trial_here", "_law_counts"]) (js := [2, 10]) (by decide +kernel) rfl rfl rfl) (wi_list (we_v 6)) (fun _ _ _ _ => wts_one (wt_cmp (op_eqD hr.units) (we_fn F_counts_of (hr.mono (by decide)) (wa_k (we_v 1) (wa_k (we_v 0) wa_nil))) (we_v 2) (nomark _))) (fun _ _ _ _ => (we_v 0))) wa_nil)) (we_fn F_rows_to (hr.mono (by decide)) (wa_k (we_v 10) wa_nil)) (nomark _)) (wss_one (ws_ret we_bl)) wss_nil)))
      (wss_cons (ws_setComp (i := 11) (CScope.of (psc := defScope s_law) (N := ["_law_script", "_law_feed_here", "_law_trial_here", "_law_mix", "_law_faces", "_law_many", "_law_rows_here", "_law_some", "_law_way", "_law_parts", "_law_counts", "_law_found", "_law_shares_here", "_law_shown"]) (N' := ["_law_way"]) (js := []) (by decide +kernel) rfl rfl rfl) sc_law.nd rfl rfl (wi_tup (we_ix ix_seq (we_v 2) we_int (fun _ _ => rfl))) (fun _ _ _ _ => wts_nil) (fun _ _ _ _ => (we_tup (wa_k we_int (wa_k we_int wa_nil)))))
      (wss_cons (ws_for PassesOwn.never rfl (wi_list (we_v 7)) (wg_name (i := 10) sc_law.nd rfl (Or.inr rfl)) (wss_cons (ws_set (i := 12) sc_law.nd rfl (Or.inl rfl) (we_fn F_ways_behind (hr.mono (by decide)) (wa_k (we_v 2) (wa_k (we_v 3) (wa_k (we_v 10) wa_nil)))))
      (wss_cons (ws_set (i := 13) sc_law.nd rfl (Or.inl rfl) (we_fn F_total (hr.mono (by decide)) (wa_k (we_comp (CScope.of (psc := defScope s_law) (N := ["_law_script", "_law_feed_here", "_law_trial_here", "_law_mix", "_law_faces", "_law_many", "_law_rows_here", "_law_some", "_law_way", "_law_parts", "_law_counts", "_law_found", "_law_shares_here", "_law_shown"]) (N' := ["_law_way", "_law_trial_here", "_law_mix", "_law_counts"]) (js := [2, 3, 10]) (by decide +kernel) rfl rfl rfl) (wi_range1 rfl T.b_range (wa_k (we_cB cl_len (by rfl) T.b_len (by decide +kernel) (wa_k (we_v 3) wa_nil)) wa_nil)) (fun _ _ _ _ => wts_nil) (fun _ _ _ _ => (we_fn F_times (hr.mono (by decide)) (wa_k (we_ix (ix_seqK K) (we_v 2) (we_v 0) (fun _ _ => rfl)) (wa_k (we_fn F_weight (hr.mono (by decide)) (wa_k (we_v 1) (wa_k (we_v 0) (wa_k (we_v 3) wa_nil)))) wa_nil))))) wa_nil)))
      (wss_one (ws_for PassesOwn.never rfl (wi_range1 rfl T.b_range (wa_k (we_cB cl_len (by rfl) T.b_len (by decide +kernel) (wa_k (we_v 3) wa_nil)) wa_nil)) (wg_name (i := 8) sc_law.nd rfl (Or.inr rfl)) (wss_one (ws_if (wt_cmp op_notN (we_v 12) we_non (nomark _)) (wss_one (ws_asg (we_fn F_plus (hr.mono (by decide)) (wa_k (we_ix ix_seq (we_v 11) (we_v 8) (fun _ _ => rfl)) (wa_k (we_fn F_times (hr.mono (by decide)) (wa_k (we_ix ix_seq (we_v 12) (we_v 8) (fun _ _ => rfl)) (wa_k (we_fn F_times (hr.mono (by decide)) (wa_k (we_v 13) (wa_k (we_tup (wa_k (we_fn F_rows_to (hr.mono (by decide)) (wa_k (we_v 10) wa_nil)) (wa_k we_int wa_nil))) wa_nil))) wa_nil))) wa_nil))) (wg_sub (we_v 11) (we_v 8) set_list))) wss_nil)))))))
      (wss_one (ws_ret (we_cmp op_eq (we_cB (cl_repr hr.gd hr.units) (by rfl) T.b_repr (by decide +kernel) (wa_k (we_cT call_tuple_of (by rfl) T.b_tuple (by decide +kernel) (wa_k (we_v 11) wa_nil)) wa_nil)) (we_cB (cl_repr hr.gd hr.units) (by rfl) T.b_repr (by decide +kernel) (wa_k (we_v 3) wa_nil)) (nomark _))))))))))))))), ?_⟩
    refine ⟨_, rfl, ?_⟩
    refine sp_feed_i hS hl fun p L H1 F1 s1 n1 nL1 => ?_
    refine ⟨_, rfl, ?_⟩
    refine sp_trial_i F1 fun v t o cF cW fs ws H2 F2 s2 rv ok => ?_
    have lF := ok.lenF
    have lW := ok.lenW
    subst lF lW
    have hF := ok.hF
    have hW := ok.hW
    obtain ⟨av, af, aw, xf, xw, rfl, ha, hf, hw, rf, rw'⟩ := tr_at rv
    refine ⟨_, rfl, _, rfl, ?_⟩
    refine ixT ha rfl ?_
    refine rlT hw ?_
    rw [reps_len rw']
    refine sp_shares_i F2 (by omega) (by omega) fun mv ms H3 F3 s3 rm okm => ?_
    obtain ⟨xs2, hx2⟩ := F2.lst
    have t3 := s3.t hx2
    have rv := rv.flat t3 (trD_flat _ _)
    have ha := t3 _ _ ha
    have hf := t3 _ _ hf
    have lf := reps_len rf
    clear rf rw' hw
    refine ⟨_, rfl, ?_⟩
    refine ixT ha rfl ?_
    refine rlT hf ?_
    rw [lf]
    refine ⟨_, rfl, ?_⟩
    refine nwL (by show 3 ≤ 64; decide) fun q4 H4 hq4 e4 s4 => ?_
    refine ⟨_, rfl, _, _, rfl, rfl, ?_⟩
    have hM : ∃ M : Int, atI [V.int 6, V.int 5, V.int 4] ((fs.length : Int) - 2) = some (.int M) ∧ 0 < M ∧ bits M ≤ 9000 ∧ ∀ x : Nat, (x : Int) < M → FnOk2 fs.length x := by
      rcases hF with h | h | h
      · exact ⟨6, by rw [h]; rfl, by decide, by decide +kernel, fun x hx => .inl ⟨h, by omega⟩⟩
      · exact ⟨5, by rw [h]; rfl, by decide, by decide +kernel, fun x hx => .inr (.inl ⟨h, by omega⟩)⟩
      · exact ⟨4, by rw [h]; rfl, by decide, by decide +kernel, fun x hx => .inr (.inr ⟨h, by omega⟩)⟩
    obtain ⟨M, hat, M0, bM, hfn⟩ := hM
    refine ixL e4 hat ?_
    refine sp_draw_i (F3.same s4) M0 bM fun x H5 x0 x1 F5 s5 => ?_
    obtain ⟨n, rfl⟩ := nat_of x0
    have hok := hfn n x1
    obtain ⟨p9, n5, f1, f4⟩ := pw_rows hok
    obtain ⟨xs4, hx4⟩ := (F3.same s4).lst
    have t5 := s4.t.trans (s5.t hx4)
    have rv := rv.flat t5 (trD_flat _ _)
    have rm := rm.flat t5 (shD_flat _)
    clear F5 s5 t5 hx4 s4 e4 hq4 hat F3 s3 hx2 t3 F2 s2 F1 s1 n1 nL1 hS ha hf lf x1
    refine ⟨_, rfl, _, rfl, ?_⟩
    refine sp_rows_i f4 (by omega) f1 p9 fun R H6 s6 hR l6 => ?_
    refine ⟨_, rfl, _, rfl, ?_⟩
    refine sp_allc_i f1 f4 n5 fun A H7 s7 hA l7 => ?_
    obtain ⟨xa, ea, ra, lxa⟩ := l7.len
    have sma := all_small fs.length f4 (n + 1) (by omega)
    refine ⟨A, rfl, ⟨_, SqL.of ea⟩, ?_⟩
    refine comp_fltD ra (fun c => decide (c.sum = n)) (by omega) ea (fun x c H' Q' hc rc s' k' => ?_) (fun x H' Q' q => ⟨_, rfl, q⟩) (fun S ys H8 hS hS8 s8 r8 => ?_)
    · obtain ⟨ac, xc, rfl, hac, rxc⟩ := tup_at rc
      have exc := nats_vals rxc
      subst exc
      refine ⟨_, rfl, ?_⟩
      refine rsT (SqT.of hac) ?_
      refine ⟨_, rfl, rfl, _, rfl, ?_⟩
      rw [sum_cast, dec_int]
      exact k' H' (Same.refl _)
    · rw [flt_all] at r8
      have Z : St0 H8 av R S mv fs ws ms n := ⟨((rv.same s6).same s7).same s8, ((rm.same s6).same s7).same s8, (l6.same s7).same s8, ys, hS8, r8⟩
      clear r8 hS8 s8 hS ra ea l7 hA s7 l6 hR s6 rv rm lxa sma
      have smc := cta_small fs.length f4 n n5
      have smr := rows_small hok
      obtain ⟨av', af, aw, xf, xw, e', ha, hf, hw, rf, rw'⟩ := tr_at Z.rv
      cases e'
      have lxw := reps_len rw'
      refine ⟨_, rfl, ?_⟩
      refine ixT ha rfl ?_
      refine rlT hw ?_
      rw [lxw]
      refine ⟨_, rfl, by omega, by omega, ?_⟩
      refine for_range (fun i σ H' => ∃ o8 o9 : Option V, σ = [some (.ref a), some (.ref p), some (.ref av), some mv, some (.int (fs.length : Nat)), some (.int (n : Nat)), some (.ref R), some (.ref S), o8, o9, none, none, none, none] ∧ Same H8 H') ⟨_, _, rfl, Same.refl _⟩ ?_ ?_
      · rintro i σ H9 hi ⟨o8, o9, rfl, s9⟩
        have Z9 := Z.same s9
        have hi' : i < ws.length := by omega
        have ew : ws[i]? = some ws[i] := List.getElem?_eq_getElem hi'
        generalize ws[i] = wy at ew
        have oks := ok.sh _ (List.mem_of_getElem? ew)
        obtain ⟨xr, er, rr, lxr⟩ := Z9.lr.len
        refine ⟨_, rfl, R, rfl, ⟨_, SqL.of er⟩, ?_⟩
        refine comp_mapL (fun j y H' => ∃ r, (rowsN fs.length n)[j]? = some r ∧ FrW K H' (shF wy.2 r) y) (fun j y H1 H2 s ⟨r, h1, h2⟩ => ⟨r, h1, h2.t s⟩) (by omega) er (fun j x H' Q' hx s' k' => ?_) (fun D ys H10 hD hD10 s10 hy hr10 => ?_)
        · obtain ⟨r, hr', rx⟩ := reps_get rr hx
          obtain ⟨m1, m2⟩ := rowsN_mem (List.mem_of_getElem? hr')
          refine ⟨_, rfl, _, rfl, _, rfl, ?_⟩
          rw [show (0 : Int) + (i : Int) = (i : Int) by omega]
          exact sp_shof_i (Z9.rv.same s') ew (rx.same s') oks.b (by omega) (fun x hx => by rw [oks.len]; exact m2 x hx) fun x H5 s5 w => k' _ H5 s5 ⟨r, hr', w⟩
        · have fv : FrsV K H10 ((rowsN fs.length n).map (shF wy.2)) ys := ⟨by rw [hy, lxr, List.length_map], fun j y hj => by
            obtain ⟨r, h1, h2⟩ := hr10 j y hj
            exact ⟨_, by rw [List.getElem?_map, h1]; rfl, h2.v⟩⟩
          refine sp_total_v hD10 fv (rows_B oks hok) fun tv H11 s11 r11 => ?_
          have tr := tot_rows oks.low oks.one n
          rw [oks.len] at tr
          rw [tr] at r11
          refine nwT (by show 2 ≤ 64; decide) fun q12 H12 hq12 e12 s12 => ?_
          refine reD (r11.same s12) (frD_of (f := (1, 1)) e12) (fr_shaped _) (fr_shaped _) ?_
          refine ⟨_, rfl, ?_⟩
          rw [one_eqv]
          refine iteF ?_
          have S12 := (s10.trans s11).trans s12
          have Z12 := Z9.same S12
          obtain ⟨xs, es, rs, lxs⟩ := Z12.ls.len
          refine ⟨_, rfl, S, rfl, ⟨_, SqL.of es⟩, ?_⟩
          refine comp_mapL (fun j y H' => ∃ c, (cta fs.length n)[j]? = some c ∧ Rep H' (frD (ptF wy.2 c)) y) (fun j y H1 H2 s ⟨c, h1, h2⟩ => ⟨c, h1, h2.flat s (frD_flat _)⟩) (by omega) es (fun j x H' Q' hx s' k' => ?_) (fun D2 ys2 H13 hD2 hD13 s13 hy2 hr13 => ?_)
          · obtain ⟨c, hc, rc⟩ := reps_get rs hx
            obtain ⟨m1, m2⟩ := cta_mem (List.mem_of_getElem? hc)
            obtain ⟨b1, b2, b3, _⟩ := wgt_le oks (c := c) (by omega)
            refine ⟨_, rfl, ?_⟩
            refine sp_rowsto_i (rc.same s') (by omega) ?_
            refine nwT (by show 2 ≤ 64; decide) fun q14 H14 hq14 e14 s14 => ?_
            refine ⟨_, rfl, _, rfl, _, rfl, ?_⟩
            rw [show (0 : Int) + (i : Int) = (i : Int) by omega]
            refine sp_weight_i (Z12.rv.same (s'.trans s14)) ew (rc.same (s'.trans s14)) oks.b (by omega) fun x H15 s15 w15 => ?_
            refine sp_times_i (FrV.same s15 (FrV.new (f := (((mN c : Nat) : Int), 1)) e14)) w15 (m1_low _) b1 (szf_of (n := 7) (by show ((mN c : Nat) : Int).natAbs ≤ _; rw [Int.natAbs_natCast]; exact mN_7 (by omega)) (by show 1 ≤ _; decide) (by decide)) (szf_of b2 b3 (by decide)) ?_
            intro q16 H16 hq16 e16 s16
            exact k' _ H16 ((s14.trans s15).trans s16) ⟨c, hc, frD_of e16⟩
          · have rp : RepL H13 (((cta fs.length n).map (ptF wy.2)).map frD) ys2 := RepL.ofIdx (by rw [hy2, lxs, List.length_map, List.length_map]) fun j y hj => by
              obtain ⟨c, h1, h2⟩ := hr13 j y hj
              exact ⟨_, by rw [List.getElem?_map, List.getElem?_map, h1]; rfl, h2⟩
            refine ⟨_, rfl, ?_⟩
            refine sp_total_i hD13 rp (cta_B oks f4 n5) fun tv2 H14 s14 r14 => ?_
            have tc := tot_cta oks.low oks.one (by rw [oks.len]; omega) n
            rw [oks.len] at tc
            rw [show (cta fs.length n).map (ptF wy.2) = (cta fs.length n).map (fun c => mulF (((mN c : Nat) : Int), 1) (wgtF (wy.2.zip c))) from rfl, tc] at r14
            refine nwT (by show 2 ≤ 64; decide) fun q15 H15 hq15 e15 s15 => ?_
            refine reD (r14.same s15) (frD_of (f := (1, 1)) e15) (fr_shaped _) (fr_shaped _) ?_
            refine ⟨_, rfl, ?_⟩
            rw [one_eqv]
            refine iteF ?_
            exact ⟨_, _, rfl, (s9.trans S12).trans ((s13.trans s14).trans s15)⟩
      · rintro σ H9 ⟨o8, o9, rfl, s9⟩
        have Z9 := Z.same s9
        obtain ⟨xs, es, rs, lxs⟩ := Z9.ls.len
        refine ⟨_, rfl, S, rfl, ⟨_, SqL.of es⟩, ?_⟩
        refine for_list (xs := xs) (fun i σ H' => ∃ o10 : Option V, σ = [some (.ref a), some (.ref p), some (.ref av), some mv, some (.int (fs.length : Nat)), some (.int (n : Nat)), some (.ref R), some (.ref S), o8, o9, o10, none, none, none] ∧ Same H9 H') ⟨_, rfl, Same.refl _⟩ (fun i σ H' _ p => ?_) ?_ ?_
        · obtain ⟨o10, _, s'⟩ := p
          exact SqL.of (s' _ _ es)
        · rintro i x σ H10 hx ⟨o10, rfl, s10⟩
          obtain ⟨c, hc, rc⟩ := reps_get rs hx
          obtain ⟨m1, m2⟩ := cta_mem (List.mem_of_getElem? hc)
          have Z10 := Z9.same s10
          obtain ⟨xr, er, rr, lxr⟩ := Z10.lr.len
          refine ⟨_, rfl, R, rfl, ⟨_, SqL.of er⟩, ?_⟩
          refine comp_fltD rr (fun r => decide (cnt fs.length r = c)) (by omega) er (fun y r H' Q' hr' ry s' k' => ?_) (fun x H' Q' q => ⟨_, rfl, q⟩) (fun D ys H11 hD hD11 s11 r11 => ?_)
          · refine ⟨_, rfl, _, rfl, ?_⟩
            refine sp_cntof_i (Z10.rv.same s') ry (by omega) fun z H5 s5 rz => ?_
            refine ⟨_, rfl, ?_⟩
            refine reD rz (((rc.same s10).same s').same s5) (ct_shaped _) (ct_shaped _) ?_
            refine ⟨_, rfl, ?_⟩
            rw [ct_eqv]
            rw [show (true == decide (cnt fs.length r = c)) = decide (cnt fs.length r = c) by cases decide (cnt fs.length r = c) <;> rfl]
            exact k' H5 s5
          · have ly := reps_len r11
            rw [flt_len m1 m2] at ly
            refine rlL hD11 ?_
            refine ⟨_, rfl, ?_⟩
            refine sp_rowsto_i ((rc.same s10).same s11) (by omega) ?_
            refine ⟨rfl, _, rfl, ?_⟩
            refine iteNS (by rw [ly]) ?_
            exact ⟨_, rfl, s10.trans s11⟩
        · rintro σ H10 ⟨o10, rfl, s10⟩
          have Z10 := Z9.same s10
          have S10 := s9.trans s10
          refine ⟨_, rfl, ?_⟩
          refine ixT (S10 _ _ ha) rfl ?_
          refine ⟨aw, rfl, ⟨_, SqT.of (S10 _ _ hw)⟩, ?_⟩
          refine comp_mapU (fun j y H' => Rep H' (frD (0, 1)) y) (fun j y H1 H2 s h => h.flat s (frD_flat _)) (by omega) (S10 _ _ hw) (fun j x H' Q' hx s' k' => ?_) (fun D ys H11 hD hD11 s11 hy hr11 => ?_)
          · refine nwT (by show 2 ≤ 64; decide) fun q5 H5 hq5 e5 s5 => ?_
            exact k' _ H5 s5 (frD_of (f := (0, 1)) e5)
          · have Z11 := Z10.same s11
            have es11 := s11 _ _ (s10 _ _ es)
            have rs11 := (rs.same s10).same s11
            clear rs es
            have lm := okm.len
            have qi : ∀ j, j < ws.length → ∃ m w, ms[j]? = some m ∧ ws[j]? = some w := fun j hj => ⟨ms[j], ws[j], List.getElem?_eq_getElem (by omega), List.getElem?_eq_getElem hj⟩
            refine ⟨_, rfl, S, rfl, ⟨_, SqL.of es11⟩, ?_⟩
            refine for_list (xs := xs) (fun i σ H' => ∃ (o8 o10 o12 o13 : Option V) (vs : List V), σ = [some (.ref a), some (.ref p), some (.ref av), some mv, some (.int (fs.length : Nat)), some (.int (n : Nat)), some (.ref R), some (.ref S), o8, o9, o10, some (.ref D), o12, o13] ∧ Same H10 H' ∧ St0 H' av R S mv fs ws ms n ∧ H' S = some (.lst xs) ∧ RepL H' ((cta fs.length n).map ctD) xs ∧ H' D = some (.lst vs) ∧ vs.length = ws.length ∧
              ∀ (j : Nat) (y : V), vs[j]? = some y → ∃ m w, ms[j]? = some m ∧ ws[j]? = some w ∧ Rep H' (frD (accF m w.2 ((cta fs.length n).take i))) y) ⟨_, _, _, _, ys, rfl, s11, Z11, es11, rs11, hD11, by omega, fun j y hj => ?_⟩ (fun i σ H' _ p => ?_) ?_ ?_
            · have hj' : j < ws.length := by
                obtain ⟨h1, _⟩ := List.getElem?_eq_some_iff.mp hj
                omega
              obtain ⟨m, w, h1, h2⟩ := qi j hj'
              exact ⟨m, w, h1, h2, hr11 j y hj⟩
            · obtain ⟨_, _, _, _, _, _, _, _, e, _⟩ := p
              exact SqL.of e
            · rintro i x σ H12 hx ⟨o8, o10, o12, o13, vs, rfl, s12, Z12, es12, rs12, hD12, lv, hv⟩
              obtain ⟨c, hc, rc⟩ := reps_get rs12 hx
              obtain ⟨m1, m2⟩ := cta_mem (List.mem_of_getElem? hc)
              have hD10 : H10 D = none := hD
              have hti := take_snoc hc
              refine ⟨_, rfl, _, rfl, _, rfl, ?_⟩
              refine sp_behind_i Z12.rv Z12.rm rc okm ok.sh rfl (by omega) (by omega) fun bx H13 s13 r13 => ?_
              have okl := raw_ok (cs := c) okm ok.sh (by omega) (by omega)
              obtain ⟨am, xm, emv, hm', rm'⟩ := tup_at (Z12.rm.same s13)
              subst emv
              have lxm := reps_len rm'
              refine ⟨_, rfl, ?_⟩
              refine rlT hm' ?_
              rw [lxm]
              refine ⟨_, rfl, by omega, by omega, ?_⟩
              refine comp_mapR (fun j y H' => ∃ g, (raw ms ws c)[j]? = some g ∧ Rep H' (frD (lw g.1 g.2)) y) (fun j y H1 H2 s ⟨g, h1, h2⟩ => ⟨g, h1, h2.flat s (frD_flat _)⟩) (by omega) (fun j H' Q' hj s' k' => ?_) (fun D2 ys2 H14 hD2 hD14 s14 hy2 hr14 => ?_)
              · obtain ⟨g, wy, eg, ew⟩ := qi j (by omega)
                obtain ⟨u, hu, ru⟩ := reps_get' rm' eg
                have gm := List.mem_of_getElem? eg
                have oks := ok.sh _ (List.mem_of_getElem? ew)
                obtain ⟨b1, b2, b3, _⟩ := wgt_le oks (c := c) (by omega)
                refine ⟨_, rfl, _, rfl, ?_⟩
                rw [show (0 : Int) + (j : Int) = (j : Int) by omega]
                refine ixT (s' _ _ hm') (atI_nat (j := j) hu) ?_
                refine ⟨_, rfl, _, rfl, _, rfl, ?_⟩
                refine sp_weight_i ((Z12.rv.same s13).same s') ew ((rc.same s13).same s') oks.b (by omega) fun x H15 s15 w15 => ?_
                refine sp_times_i (FrV.of (ru.same (s'.trans s15))) w15 (okm.low _ gm) b1 (szf_of (okm.b.up _ gm) (okm.b.dn _ gm) (by decide)) (szf_of b2 b3 (by decide)) ?_
                intro q16 H16 hq16 e16 s16
                refine k' _ H16 (s15.trans s16) ⟨_, raw_get eg ew, ?_⟩
                have zl : ∀ z ∈ wy.2.zip c, LowF z.1 := fun z hz => oks.low _ (List.of_mem_zip (a := z.1) (b := z.2) hz).1
                have e : mulF g (wgtF (wy.2.zip c)) = lw (g.1 * (wgtN (wy.2.zip c)).1) (g.2 * (wgtN (wy.2.zip c)).2) := by
                  rw [wgtF_eq _ zl, ← mul_lw (okm.low _ gm).pos (wgtN_pos _ zl), lw_self (okm.low _ gm)]
                rw [← e]
                exact frD_of e16
              · have ll : (raw ms ws c).length = ws.length := by
                  unfold raw
                  rw [List.length_map, List.length_zip]
                  omega
                have hrep : RepL H14 (((raw ms ws c).map fun f => lw f.1 f.2).map frD) ys2 := by
                  refine RepL.ofIdx (by rw [hy2, List.length_map, List.length_map, ll]; omega) fun j y hj => ?_
                  obtain ⟨g, h1, h2⟩ := hr14 j y hj
                  exact ⟨_, by rw [List.getElem?_map, List.getElem?_map, h1]; rfl, h2⟩
                have okp := okl.parts
                refine sp_total_i hD14 hrep okp fun tv H15 s15 r15 => ?_
                have tz := okp.tot
                rw [tot_lw _ fun f hf => (okl.pos f hf).2] at r15 tz
                have tz4 := tz.mono (m := 4000) (by have := okp.sz; omega)
                obtain ⟨hw0, hw1⟩ := okl.whole
                obtain ⟨hs0, hs1⟩ := okl.sum
                have S15 := (s13.trans s14).trans s15
                have rbx := (r13.same s14).same s15
                have hm15 := (s14.trans s15) _ _ hm'
                refine ⟨_, rfl, ?_⟩
                refine rlT hm15 ?_
                rw [lxm]
                refine ⟨_, rfl, by omega, by omega, ?_⟩
                rw [show ((ms.length : Int)).toNat = ws.length by omega]
                refine for_range (fun j σ H' => ∃ (o8 : Option V) (vs : List V), σ = [some (.ref a), some (.ref p), some (.ref av), some (.ref am), some (.int (fs.length : Nat)), some (.int (n : Nat)), some (.ref R), some (.ref S), o8, o9, some x, some (.ref D), some bx, some tv] ∧ Same H10 H' ∧ St0 H' av R S (.ref am) fs ws ms n ∧ H' S = some (.lst xs) ∧ RepL H' ((cta fs.length n).map ctD) xs ∧ H' D = some (.lst vs) ∧ vs.length = ws.length ∧
                  (∀ (l : Nat) (y : V), vs[l]? = some y → ∃ m w, ms[l]? = some m ∧ ws[l]? = some w ∧ Rep H' (frD (accF m w.2 ((cta fs.length n).take (if l < j then i + 1 else i)))) y) ∧ Rep H' (ctD c) x ∧ Rep H' (dueD (raw ms ws c)) bx ∧ Rep H' (frD (lw (sumN (raw ms ws c) (Mf.whole (raw ms ws c))) (Mf.whole (raw ms ws c)))) tv)
                  ⟨_, vs, rfl, s12.trans S15, Z12.same S15, S15 _ _ es12, rs12.same S15, S15 _ _ hD12, lv, fun l y hl' => ?_, rc.same S15, rbx, r15⟩ ?_ ?_
                · obtain ⟨m, w, h1, h2, h3⟩ := hv l y hl'
                  exact ⟨m, w, h1, h2, by rw [if_neg (by omega)]; exact h3.same S15⟩
                · clear hrep hr14 hy2 hD14 s14 s15 r15 rbx r13 s13 hm' hm15 rm' S15 hD2 Z12 rs12 es12 hD12 hv s12
                  rintro j σ H16 hj ⟨o8, vs2, rfl, s16, Z16, es16, rs16, hD16, lv2, hv2, rc16, rb16, rt16⟩
                  obtain ⟨g, wy, eg, ew⟩ := qi j (by omega)
                  have gm := List.mem_of_getElem? eg
                  have oks := ok.sh _ (List.mem_of_getElem? ew)
                  have er := raw_get (cs := c) eg ew
                  have erm := List.mem_of_getElem? er
                  generalize hl' : raw ms ws c = l at *
                  have hvj : vs2[j]? = some vs2[j] := List.getElem?_eq_getElem (by omega)
                  obtain ⟨m', w', h1', h2', h3'⟩ := hv2 j _ hvj
                  rw [eg] at h1'
                  rw [ew] at h2'
                  cases h1'
                  cases h2'
                  rw [if_neg (Nat.lt_irrefl _)] at h3'
                  have aB := acc_B (n := n) okm gm oks f4 n5 i
                  have aT : Szf 4000 (accF g wy.2 ((cta fs.length n).take i)) := aB.tot.mono (m := 4000) (by have := aB.sz; omega)
                  have aL : LowF (accF g wy.2 ((cta fs.length n).take i)) := totF_low _ aB.low
                  obtain ⟨k1, k2, k3⟩ := trm_le okm gm oks (c := c) (by omega)
                  have et : trm g wy.2 c = lw ((mN c : Nat) * (g.1 * (wgtN (wy.2.zip c)).1)) (g.2 * (wgtN (wy.2.zip c)).2) := rfl
                  have fin : ∀ (v8 : V) H17 vs3, Same H10 H17 → St0 H17 av R S (.ref am) fs ws ms n → H17 S = some (.lst xs) → RepL H17 ((cta fs.length n).map ctD) xs → H17 D = some (.lst vs3) → vs3.length = ws.length → Rep H17 (ctD c) x → Rep H17 (dueD l) bx → Rep H17 (frD (lw (sumN l (Mf.whole l)) (Mf.whole l))) tv →
                      (∀ q y, vs3[q]? = some y → (q = j ∧ Rep H17 (frD (addF (accF g wy.2 ((cta fs.length n).take i)) (trm g wy.2 c))) y) ∨ (q ≠ j ∧ ∃ y', vs2[q]? = some y' ∧ ∀ d, flatD d = true → Rep H16 d y' → Rep H17 d y)) →
                      ∃ (o8 : Option V) (vs : List V), [some (.ref a), some (.ref p), some (.ref av), some (.ref am), some (.int (fs.length : Nat)), some (.int (n : Nat)), some (.ref R), some (.ref S), some v8, o9, some x, some (.ref D), some bx, some tv] = [some (.ref a), some (.ref p), some (.ref av), some (.ref am), some (.int (fs.length : Nat)), some (.int (n : Nat)), some (.ref R), some (.ref S), o8, o9, some x, some (.ref D), some bx, some tv] ∧ Same H10 H17 ∧ St0 H17 av R S (.ref am) fs ws ms n ∧ H17 S = some (.lst xs) ∧ RepL H17 ((cta fs.length n).map ctD) xs ∧ H17 D = some (.lst vs) ∧ vs.length = ws.length ∧
                  (∀ (l : Nat) (y : V), vs[l]? = some y → ∃ m w, ms[l]? = some m ∧ ws[l]? = some w ∧ Rep H17 (frD (accF m w.2 ((cta fs.length n).take (if l < j + 1 then i + 1 else i)))) y) ∧ Rep H17 (ctD c) x ∧ Rep H17 (dueD l) bx ∧ Rep H17 (frD (lw (sumN l (Mf.whole l)) (Mf.whole l))) tv := by
                    intro v8 H17 vs3 a1 a2 a3 a4 a5 a6 a7 a8 a9 a10
                    refine ⟨_, vs3, rfl, a1, a2, a3, a4, a5, a6, fun q y hq => ?_, a7, a8, a9⟩
                    rcases a10 q y hq with ⟨rfl, h⟩ | ⟨hne, y', hy', h⟩
                    · refine ⟨g, wy, eg, ew, ?_⟩
                      rw [if_pos (by omega), hti, acc_snoc]
                      exact h
                    · obtain ⟨m, w, b1, b2, b3⟩ := hv2 q y' hy'
                      refine ⟨m, w, b1, b2, ?_⟩
                      have : (if q < j + 1 then i + 1 else i) = if q < j then i + 1 else i := by
                        by_cases hq1 : q < j
                        · rw [if_pos hq1, if_pos (by omega)]
                        · rw [if_neg hq1, if_neg (by omega)]
                      rw [this]
                      exact h _ (frD_flat _) b3
                  refine ⟨_, rfl, rfl, _, rfl, ?_⟩
                  by_cases e0 : sumN l (Mf.whole l) = 0
                  · have ed : dueD l = .none := by unfold dueD; rw [if_pos e0]
                    have rb := rb16
                    rw [ed] at rb
                    cases (show bx = V.non from rb)
                    refine iteF ?_
                    have g0 := zero_part okl.pos e0 erm
                    have ez : trm g wy.2 c = (0, 1) := by
                      rw [et, show g.1 * (wgtN (wy.2.zip c)).1 = 0 from g0, Int.mul_zero]
                      exact lw_zero (okl.pos _ erm).2
                    refine fin _ H16 vs2 s16 Z16 es16 rs16 hD16 lv2 rc16 rb16 rt16 fun q y hq => ?_
                    by_cases hqj : q = j
                    · subst hqj
                      refine .inl ⟨rfl, ?_⟩
                      rw [ez, add_zero aL]
                      rw [hvj] at hq
                      cases hq
                      exact h3'
                    · exact .inr ⟨hqj, y, hq, fun _ _ h => h⟩
                  · have hS : 0 < sumN l (Mf.whole l) := by omega
                    have ed : dueD l = .tuple (l.map fun f => frD (lw (f.1 * (Mf.whole l / f.2)) (sumN l (Mf.whole l)))) := by unfold dueD; rw [if_neg e0]
                    have rb := rb16
                    rw [ed] at rb
                    obtain ⟨ab, xb, rfl, hab, rxb⟩ := tup_at rb
                    refine iteT ?_
                    obtain ⟨ub, hub, rub⟩ := reps_get' (g := fun f : Fr => frD (lw (f.1 * (Mf.whole l / f.2)) (sumN l (Mf.whole l)))) rxb er
                    obtain ⟨pp0, pp1⟩ := okl.part erm
                    have ld := lw_low (n := g.1 * (wgtN (wy.2.zip c)).1 * (Mf.whole l / (g.2 * (wgtN (wy.2.zip c)).2))) hS
                    obtain ⟨le1, le2⟩ := lw_le (n := g.1 * (wgtN (wy.2.zip c)).1 * (Mf.whole l / (g.2 * (wgtN (wy.2.zip c)).2))) hS
                    have lpos := ld.pos
                    have zb : Szf 4000 (lw (g.1 * (wgtN (wy.2.zip c)).1 * (Mf.whole l / (g.2 * (wgtN (wy.2.zip c)).2))) (sumN l (Mf.whole l))) := szf_of (n := 452) (Nat.le_trans le2 (Nat.le_trans pp1 (Nat.pow_le_pow_right (by decide) (by decide)))) (by omega) (by decide)
                    refine ⟨_, rfl, _, rfl, ?_⟩
                    rw [show (0 : Int) + (j : Int) = (j : Int) by omega]
                    refine ixL hD16 (atI_nat (j := j) hvj) ?_
                    refine ⟨_, rfl, _, rfl, ?_⟩
                    refine ixT hab (atI_nat (j := j) hub) ?_
                    refine ⟨_, rfl, _, rfl, ?_⟩
                    refine sp_rowsto_i rc16 (by omega) ?_
                    refine nwT (by show 2 ≤ 64; decide) fun q17 H17 hq17 e17 s17 => ?_
                    have tl := lw_low (n := sumN l (Mf.whole l)) hw0
                    have z7 : ((((mN c : Nat) : Int), (1 : Int)) : Fr).1.natAbs ≤ 2 ^ 7 := by show ((mN c : Nat) : Int).natAbs ≤ _; rw [Int.natAbs_natCast]; exact mN_7 (by omega)
                    have tz460 := tz.mono (m := 460) (by have := okl.len; rw [List.length_map]; omega)
                    obtain ⟨x1, x2, x3⟩ := mulF_le (n := 460) (m := 7) tl (m1_low (mN c)) (Nat.le_of_lt tz460.1) (Nat.le_of_lt tz460.2) z7 (by show 1 ≤ _; decide)
                    refine sp_times_i (FrV.of (rt16.same s17)) (FrV.new (f := (((mN c : Nat) : Int), 1)) e17) tl (m1_low _) tz4 (szf_of z7 (by show 1 ≤ _; decide) (by decide)) ?_
                    intro q18 H18 hq18 e18 s18
                    refine sp_times_i (FrV.of (rub.same (s17.trans s18))) (FrV.new e18) ld x1 zb (szf_of x2 x3 (by decide)) ?_
                    intro q19 H19 hq19 e19 s19
                    have te := term_eq (k := mN c) (okl.pos _ erm).2 hw0 hS (whole_dvd l _ erm)
                    rw [te] at e19
                    have S19 := (s17.trans s18).trans s19
                    refine sp_plus_i (FrV.of (h3'.same S19)) (FrV.new (f := trm g wy.2 c) e19) aL k1 aT (szf_of k2 k3 (by decide)) ?_
                    intro q20 H20 hq20 e20 s20
                    have S20 := S19.trans s20
                    refine ⟨_, rfl, _, rfl, ?_⟩
                    have hjj : ixN vs2.length (j : Int) = some j := by
                      unfold ixN
                      rw [if_pos (by omega), if_pos (by omega)]
                      simp
                    refine stG (S20 _ _ hD16) hjj fun H21 e21 s21 => ?_
                    have t21 := S20.t.trans (s21.t (S20 _ _ hD16))
                    have nS : S ≠ D := fun z => by rw [z] at es16; rw [z] at Z; obtain ⟨vs0, h0, _⟩ := Z.ls; have := (s9.trans s10) _ _ h0; rw [hD10] at this; cases this
                    have nR : R ≠ D := fun z => by obtain ⟨vs0, h0, _⟩ := Z.lr; have := (s9.trans s10) _ _ h0; rw [z, hD10] at this; cases this
                    have Z21 : St0 H21 av R S (.ref am) fs ws ms n := by
                      obtain ⟨vr, er1, er2⟩ := Z16.lr
                      obtain ⟨vs', es1, es2⟩ := Z16.ls
                      exact ⟨Z16.rv.flat t21 (trD_flat _ _), Z16.rm.flat t21 (shD_flat _), ⟨vr, s21.at nR (S20 _ _ er1), RepL.flat t21 (cs_flat _) er2⟩, ⟨vs', s21.at nS (S20 _ _ es1), RepL.flat t21 (cs_flat _) es2⟩⟩
                    refine fin _ H21 _ (Same.thru hD10 (s16.trans S20) s21) Z21 (s21.at nS (S20 _ _ es16)) (RepL.flat t21 (cs_flat _) rs16) e21 (by rw [List.length_set]; exact lv2) (rc16.flat t21 (ctD_flat _)) ?_ (rt16.flat t21 (frD_flat _)) fun q y hq => ?_
                    · rw [ed] at rb16 ⊢
                      exact rb16.flat t21 (by
                        have e' : (l.map fun f => frD (lw (f.1 * (Mf.whole l / f.2)) (sumN l (Mf.whole l)))) = (l.map fun f => lw (f.1 * (Mf.whole l / f.2)) (sumN l (Mf.whole l))).map frD := by rw [List.map_map]; rfl
                        show flatDs _ = true
                        rw [e']
                        exact frs_flat _)
                    · by_cases hqj : q = j
                      · subst hqj
                        rw [List.getElem?_set_self (by omega)] at hq
                        cases hq
                        refine .inl ⟨rfl, ?_⟩
                        exact (frD_of (f := addF (accF g wy.2 ((cta fs.length n).take i)) (trm g wy.2 c)) e20).flat (s21.t (S20 _ _ hD16)) (frD_flat _)
                      · rw [List.getElem?_set_ne (Ne.symm hqj)] at hq
                        exact .inr ⟨hqj, y, hq, fun d hd h => h.flat t21 hd⟩
                · rintro σ H16 ⟨o8, vs2, rfl, s16, Z16, es16, rs16, hD16, lv2, hv2, rc16, rb16, rt16⟩
                  refine ⟨_, _, _, _, vs2, rfl, s16, Z16, es16, rs16, hD16, lv2, fun q y hq => ?_⟩
                  obtain ⟨m, w, b1, b2, b3⟩ := hv2 q y hq
                  have hq' : q < ws.length := (List.getElem?_eq_some_iff.mp b2).1
                  rw [if_pos hq'] at b3
                  exact ⟨m, w, b1, b2, b3⟩
            · rintro σ H12 ⟨o8, o10, o12, o13, vs, rfl, s12, Z12, es12, rs12, hD12, lv, hv⟩
              rw [show xs.length = (cta fs.length n).length from lxs, List.take_length] at hv
              have rfin : RepL H12 (ms.map frD) vs := by
                refine RepL.ofIdx (by rw [lv, List.length_map]; omega) fun q y hq => ?_
                obtain ⟨m, w, b1, b2, b3⟩ := hv q y hq
                have oks := ok.sh _ (List.mem_of_getElem? b2)
                have tm := tot_mix oks.low oks.one (by rw [oks.len]; omega) n (okm.low _ (List.mem_of_getElem? b1))
                rw [oks.len] at tm
                have : accF m w.2 (cta fs.length n) = m := tm
                rw [this] at b3
                exact ⟨_, by rw [List.getElem?_map, b1]; rfl, b3⟩
              have sh : ShowOk (shD ms) := sh_show (fun f hf => szf_of (okm.b.up f hf) (okm.b.dn f hf) (by decide)) (by rw [okm.len]; omega)
              refine ⟨_, rfl, D, vs, rfl, .inl ⟨SqL.of hD12, fun l hl => ?_⟩⟩
              have sl := Same.upd (o := .tup vs) hl
              have el : (upd H12 l (.tup vs)) l = some (.tup vs) := upd_same
              generalize upd H12 l (.tup vs) = H13 at sl el
              refine rrS (Rep.tup el (rfin.same sl)) sh ?_
              refine ⟨_, rfl, ?_⟩
              refine rrS (Z12.rm.same sl) sh ?_
              refine ⟨rfl, ?_⟩
              rw [decide_eq_true rfl]
              exact k H13
end
set_option maxHeartbeats 0 in
theorem all_mk {l : PySem.W.OpenLaw} {w : World} {K : PySem.W.Frag} {h : Heap} {mg : Str → Option Value} {fa : Addr} {c_NoFraction : Addr} {c_NOUGHT : Addr} {c_ONE : Addr} {cd_NoFraction : ClassData} {f0 : Addr} {od0 an0 : Option Addr} {sl0 : Array (Option Value)} {oc0 kV0 dc0 pm0 cd0 ct0 : Value} {f1 : Addr} {od1 an1 : Option Addr} {sl1 : Array (Option Value)} {oc1 kV1 dc1 pm1 cd1 ct1 : Value} {f2 : Addr} {od2 an2 : Option Addr} {sl2 : Array (Option Value)} {oc2 kV2 dc2 pm2 cd2 ct2 : Value} {f3 : Addr} {od3 an3 : Option Addr} {sl3 : Array (Option Value)} {oc3 kV3 dc3 pm3 cd3 ct3 : Value} {f4 : Addr} {od4 an4 : Option Addr} {sl4 : Array (Option Value)} {oc4 kV4 dc4 pm4 cd4 ct4 : Value} {f5 : Addr} {od5 an5 : Option Addr} {sl5 : Array (Option Value)} {oc5 kV5 dc5 pm5 cd5 ct5 : Value} {f6 : Addr} {od6 an6 : Option Addr} {sl6 : Array (Option Value)} {oc6 kV6 dc6 pm6 cd6 ct6 : Value} {f7 : Addr} {od7 an7 : Option Addr} {sl7 : Array (Option Value)} {oc7 kV7 dc7 pm7 cd7 ct7 : Value} {f8 : Addr} {od8 an8 : Option Addr} {sl8 : Array (Option Value)} {oc8 kV8 dc8 pm8 cd8 ct8 : Value} {f9 : Addr} {od9 an9 : Option Addr} {sl9 : Array (Option Value)} {oc9 kV9 dc9 pm9 cd9 ct9 : Value} {f10 : Addr} {od10 an10 : Option Addr} {sl10 : Array (Option Value)} {oc10 kV10 dc10 pm10 cd10 ct10 : Value} {f11 : Addr} {od11 an11 : Option Addr} {sl11 : Array (Option Value)} {oc11 kV11 dc11 pm11 cd11 ct11 : Value} {f12 : Addr} {od12 an12 : Option Addr} {sl12 : Array (Option Value)} {oc12 kV12 dc12 pm12 cd12 ct12 : Value} {f13 : Addr} {od13 an13 : Option Addr} {sl13 : Array (Option Value)} {oc13 kV13 dc13 pm13 cd13 ct13 : Value} {f14 : Addr} {od14 an14 : Option Addr} {sl14 : Array (Option Value)} {oc14 kV14 dc14 pm14 cd14 ct14 : Value} {f15 : Addr} {od15 an15 : Option Addr} {sl15 : Array (Option Value)} {oc15 kV15 dc15 pm15 cd15 ct15 : Value} {f16 : Addr} {od16 an16 : Option Addr} {sl16 : Array (Option Value)} {oc16 kV16 dc16 pm16 cd16 ct16 : Value} {f17 : Addr} {od17 an17 : Option Addr} {sl17 : Array (Option Value)} {oc17 kV17 dc17 pm17 cd17 ct17 : Value} {f18 : Addr} {od18 an18 : Option Addr} {sl18 : Array (Option Value)} {oc18 kV18 dc18 pm18 cd18 ct18 : Value} {f19 : Addr} {od19 an19 : Option Addr} {sl19 : Array (Option Value)} {oc19 kV19 dc19 pm19 cd19 ct19 : Value} {f20 : Addr} {od20 an20 : Option Addr} {sl20 : Array (Option Value)} {oc20 kV20 dc20 pm20 cd20 ct20 : Value} {f21 : Addr} {od21 an21 : Option Addr} {sl21 : Array (Option Value)} {oc21 kV21 dc21 pm21 cd21 ct21 : Value} {f22 : Addr} {od22 an22 : Option Addr} {sl22 : Array (Option Value)} {oc22 kV22 dc22 pm22 cd22 ct22 : Value} {f23 : Addr} {od23 an23 : Option Addr} {sl23 : Array (Option Value)} {oc23 kV23 dc23 pm23 cd23 ct23 : Value} (X : K.In h) (G : h.Ns mainGlobals mg) (hfa : mg "law" = some (.ref fa))
    (u_NoFraction : PySem.W.nsIn K mainGlobals "NoFraction" = some (some (.ref c_NoFraction)))
    (u_NOUGHT : PySem.W.nsIn K mainGlobals "NOUGHT" = some (some (.ref c_NOUGHT)))
    (u_ONE : PySem.W.nsIn K mainGlobals "ONE" = some (some (.ref c_ONE)))
    (x_NoFraction : PySem.W.excIn K c_NoFraction mroVE "ValueError.__new__" = true)
    (ga_NoFraction : PySem.W.findIn K (.ref c_NoFraction) "__getattribute__" = some (some (.builtin "BaseException.__getattribute__")))
    (gt_NoFraction : PySem.W.findIn K (.ref c_NoFraction) "__getattr__" = some none)
    (su_NoFraction : PySem.W.subIn K (.ref c_NoFraction) (.type "BaseException") = some true)
    (cl_NoFraction : PySem.W.clsIn K c_NoFraction = some cd_NoFraction)
    (kc_NoFraction : PySem.W.findIn K (.ref c_NoFraction) "__class__" = some (some (.builtin "object.__class__")))
    (kg_NoFraction : PySem.W.specialIn K (.builtin "object.__class__") "__get__" = some (some (.builtin "getset_descriptor.__get__")))
    (kt_NoFraction : PySem.W.takesIn K (.builtin "object.__class__") = some true)
    (ob_NoFraction : PySem.W.mroIn K c_NoFraction (.type "object") = some true)
    (o_NOUGHT : intsIn K c_NOUGHT [0, 1] = true)
    (o_ONE : intsIn K c_ONE [1, 1] = true)
    (a0 : PySem.W.nsIn K mainGlobals "_law_feed" = some (some (.ref f0))) (l0 : K.lookup f0 = some ⟨oc0, od0, .func (PySem.W.fnOf "_law_feed" "_law_feed" (defArgs s__law_feed) (defBody s__law_feed) (defScope s__law_feed) .none kV0 dc0 pm0 an0 cd0 ct0), sl0⟩) (c0 : PySem.W.codeIn K cd0 "_law_feed" = true) (k0 : PySem.W.keepIn K (.ref f0) = true)
    (a1 : PySem.W.nsIn K mainGlobals "_law_draw" = some (some (.ref f1))) (l1 : K.lookup f1 = some ⟨oc1, od1, .func (PySem.W.fnOf "_law_draw" "_law_draw" (defArgs s__law_draw) (defBody s__law_draw) (defScope s__law_draw) .none kV1 dc1 pm1 an1 cd1 ct1), sl1⟩) (c1 : PySem.W.codeIn K cd1 "_law_draw" = true) (k1 : PySem.W.keepIn K (.ref f1) = true)
    (a2 : PySem.W.nsIn K mainGlobals "common_divisor" = some (some (.ref f2))) (l2 : K.lookup f2 = some ⟨oc2, od2, .func (PySem.W.fnOf "common_divisor" "common_divisor" (defArgs s_common_divisor) (defBody s_common_divisor) (defScope s_common_divisor) .none kV2 dc2 pm2 an2 cd2 ct2), sl2⟩) (c2 : PySem.W.codeIn K cd2 "common_divisor" = true) (k2 : PySem.W.keepIn K (.ref f2) = true)
    (a3 : PySem.W.nsIn K mainGlobals "plus" = some (some (.ref f3))) (l3 : K.lookup f3 = some ⟨oc3, od3, .func (PySem.W.fnOf "plus" "plus" (defArgs s_plus) (defBody s_plus) (defScope s_plus) .none kV3 dc3 pm3 an3 cd3 ct3), sl3⟩) (c3 : PySem.W.codeIn K cd3 "plus" = true) (k3 : PySem.W.keepIn K (.ref f3) = true)
    (a4 : PySem.W.nsIn K mainGlobals "times" = some (some (.ref f4))) (l4 : K.lookup f4 = some ⟨oc4, od4, .func (PySem.W.fnOf "times" "times" (defArgs s_times) (defBody s_times) (defScope s_times) .none kV4 dc4 pm4 an4 cd4 ct4), sl4⟩) (c4 : PySem.W.codeIn K cd4 "times" = true) (k4 : PySem.W.keepIn K (.ref f4) = true)
    (a5 : PySem.W.nsIn K mainGlobals "over" = some (some (.ref f5))) (l5 : K.lookup f5 = some ⟨oc5, od5, .func (PySem.W.fnOf "over" "over" (defArgs s_over) (defBody s_over) (defScope s_over) .none kV5 dc5 pm5 an5 cd5 ct5), sl5⟩) (c5 : PySem.W.codeIn K cd5 "over" = true) (k5 : PySem.W.keepIn K (.ref f5) = true)
    (a6 : PySem.W.nsIn K mainGlobals "total" = some (some (.ref f6))) (l6 : K.lookup f6 = some ⟨oc6, od6, .func (PySem.W.fnOf "total" "total" (defArgs s_total) (defBody s_total) (defScope s_total) .none kV6 dc6 pm6 an6 cd6 ct6), sl6⟩) (c6 : PySem.W.codeIn K cd6 "total" = true) (k6 : PySem.W.keepIn K (.ref f6) = true)
    (a7 : PySem.W.nsIn K mainGlobals "faces_of" = some (some (.ref f7))) (l7 : K.lookup f7 = some ⟨oc7, od7, .func (PySem.W.fnOf "faces_of" "faces_of" (defArgs s_faces_of) (defBody s_faces_of) (defScope s_faces_of) .none kV7 dc7 pm7 an7 cd7 ct7), sl7⟩) (c7 : PySem.W.codeIn K cd7 "faces_of" = true) (k7 : PySem.W.keepIn K (.ref f7) = true)
    (a8 : PySem.W.nsIn K mainGlobals "ways_of" = some (some (.ref f8))) (l8 : K.lookup f8 = some ⟨oc8, od8, .func (PySem.W.fnOf "ways_of" "ways_of" (defArgs s_ways_of) (defBody s_ways_of) (defScope s_ways_of) .none kV8 dc8 pm8 an8 cd8 ct8), sl8⟩) (c8 : PySem.W.codeIn K cd8 "ways_of" = true) (k8 : PySem.W.keepIn K (.ref f8) = true)
    (a9 : PySem.W.nsIn K mainGlobals "way_shares" = some (some (.ref f9))) (l9 : K.lookup f9 = some ⟨oc9, od9, .func (PySem.W.fnOf "way_shares" "way_shares" (defArgs s_way_shares) (defBody s_way_shares) (defScope s_way_shares) .none kV9 dc9 pm9 an9 cd9 ct9), sl9⟩) (c9 : PySem.W.codeIn K cd9 "way_shares" = true) (k9 : PySem.W.keepIn K (.ref f9) = true)
    (a10 : PySem.W.nsIn K mainGlobals "counts_of" = some (some (.ref f10))) (l10 : K.lookup f10 = some ⟨oc10, od10, .func (PySem.W.fnOf "counts_of" "counts_of" (defArgs s_counts_of) (defBody s_counts_of) (defScope s_counts_of) .none kV10 dc10 pm10 an10 cd10 ct10), sl10⟩) (c10 : PySem.W.codeIn K cd10 "counts_of" = true) (k10 : PySem.W.keepIn K (.ref f10) = true)
    (a11 : PySem.W.nsIn K mainGlobals "share_of" = some (some (.ref f11))) (l11 : K.lookup f11 = some ⟨oc11, od11, .func (PySem.W.fnOf "share_of" "share_of" (defArgs s_share_of) (defBody s_share_of) (defScope s_share_of) .none kV11 dc11 pm11 an11 cd11 ct11), sl11⟩) (c11 : PySem.W.codeIn K cd11 "share_of" = true) (k11 : PySem.W.keepIn K (.ref f11) = true)
    (a12 : PySem.W.nsIn K mainGlobals "power" = some (some (.ref f12))) (l12 : K.lookup f12 = some ⟨oc12, od12, .func (PySem.W.fnOf "power" "power" (defArgs s_power) (defBody s_power) (defScope s_power) .none kV12 dc12 pm12 an12 cd12 ct12), sl12⟩) (c12 : PySem.W.codeIn K cd12 "power" = true) (k12 : PySem.W.keepIn K (.ref f12) = true)
    (a13 : PySem.W.nsIn K mainGlobals "weight" = some (some (.ref f13))) (l13 : K.lookup f13 = some ⟨oc13, od13, .func (PySem.W.fnOf "weight" "weight" (defArgs s_weight) (defBody s_weight) (defScope s_weight) .none kV13 dc13 pm13 an13 cd13 ct13), sl13⟩) (c13 : PySem.W.codeIn K cd13 "weight" = true) (k13 : PySem.W.keepIn K (.ref f13) = true)
    (a14 : PySem.W.nsIn K mainGlobals "rows_to" = some (some (.ref f14))) (l14 : K.lookup f14 = some ⟨oc14, od14, .func (PySem.W.fnOf "rows_to" "rows_to" (defArgs s_rows_to) (defBody s_rows_to) (defScope s_rows_to) .none kV14 dc14 pm14 an14 cd14 ct14), sl14⟩) (c14 : PySem.W.codeIn K cd14 "rows_to" = true) (k14 : PySem.W.keepIn K (.ref f14) = true)
    (a15 : PySem.W.nsIn K mainGlobals "counts_that_are" = some (some (.ref f15))) (l15 : K.lookup f15 = some ⟨oc15, od15, .func (PySem.W.fnOf "counts_that_are" "counts_that_are" (defArgs s_counts_that_are) (defBody s_counts_that_are) (defScope s_counts_that_are) .none kV15 dc15 pm15 an15 cd15 ct15), sl15⟩) (c15 : PySem.W.codeIn K cd15 "counts_that_are" = true) (k15 : PySem.W.keepIn K (.ref f15) = true)
    (a16 : PySem.W.nsIn K mainGlobals "all_counts" = some (some (.ref f16))) (l16 : K.lookup f16 = some ⟨oc16, od16, .func (PySem.W.fnOf "all_counts" "all_counts" (defArgs s_all_counts) (defBody s_all_counts) (defScope s_all_counts) .none kV16 dc16 pm16 an16 cd16 ct16), sl16⟩) (c16 : PySem.W.codeIn K cd16 "all_counts" = true) (k16 : PySem.W.keepIn K (.ref f16) = true)
    (a17 : PySem.W.nsIn K mainGlobals "ways_behind" = some (some (.ref f17))) (l17 : K.lookup f17 = some ⟨oc17, od17, .func (PySem.W.fnOf "ways_behind" "ways_behind" (defArgs s_ways_behind) (defBody s_ways_behind) (defScope s_ways_behind) .none kV17 dc17 pm17 an17 cd17 ct17), sl17⟩) (c17 : PySem.W.codeIn K cd17 "ways_behind" = true) (k17 : PySem.W.keepIn K (.ref f17) = true)
    (a18 : PySem.W.nsIn K mainGlobals "_law_low" = some (some (.ref f18))) (l18 : K.lookup f18 = some ⟨oc18, od18, .func (PySem.W.fnOf "_law_low" "_law_low" (defArgs s__law_low) (defBody s__law_low) (defScope s__law_low) .none kV18 dc18 pm18 an18 cd18 ct18), sl18⟩) (c18 : PySem.W.codeIn K cd18 "_law_low" = true) (k18 : PySem.W.keepIn K (.ref f18) = true)
    (a19 : PySem.W.nsIn K mainGlobals "_law_shares" = some (some (.ref f19))) (l19 : K.lookup f19 = some ⟨oc19, od19, .func (PySem.W.fnOf "_law_shares" "_law_shares" (defArgs s__law_shares) (defBody s__law_shares) (defScope s__law_shares) .none kV19 dc19 pm19 an19 cd19 ct19), sl19⟩) (c19 : PySem.W.codeIn K cd19 "_law_shares" = true) (k19 : PySem.W.keepIn K (.ref f19) = true)
    (a20 : PySem.W.nsIn K mainGlobals "_law_trial" = some (some (.ref f20))) (l20 : K.lookup f20 = some ⟨oc20, od20, .func (PySem.W.fnOf "_law_trial" "_law_trial" (defArgs s__law_trial) (defBody s__law_trial) (defScope s__law_trial) .none kV20 dc20 pm20 an20 cd20 ct20), sl20⟩) (c20 : PySem.W.codeIn K cd20 "_law_trial" = true) (k20 : PySem.W.keepIn K (.ref f20) = true)
    (a21 : PySem.W.nsIn K mainGlobals "_law_longer" = some (some (.ref f21))) (l21 : K.lookup f21 = some ⟨oc21, od21, .func (PySem.W.fnOf "_law_longer" "_law_longer" (defArgs s__law_longer) (defBody s__law_longer) (defScope s__law_longer) .none kV21 dc21 pm21 an21 cd21 ct21), sl21⟩) (c21 : PySem.W.codeIn K cd21 "_law_longer" = true) (k21 : PySem.W.keepIn K (.ref f21) = true)
    (a22 : PySem.W.nsIn K mainGlobals "_law_rows" = some (some (.ref f22))) (l22 : K.lookup f22 = some ⟨oc22, od22, .func (PySem.W.fnOf "_law_rows" "_law_rows" (defArgs s__law_rows) (defBody s__law_rows) (defScope s__law_rows) .none kV22 dc22 pm22 an22 cd22 ct22), sl22⟩) (c22 : PySem.W.codeIn K cd22 "_law_rows" = true) (k22 : PySem.W.keepIn K (.ref f22) = true)
    (a23 : PySem.W.nsIn K mainGlobals "law" = some (some (.ref f23))) (l23 : K.lookup f23 = some ⟨oc23, od23, .func (PySem.W.fnOf "law" "law" (defArgs s_law) (defBody s_law) (defScope s_law) .none kV23 dc23 pm23 an23 cd23 ct23), sl23⟩) (c23 : PySem.W.codeIn K cd23 "law" = true) (k23 : PySem.W.keepIn K (.ref f23) = true) (z0 : PySem.W.nsIn K mainGlobals "list" = some none) (z1 : PySem.W.nsIn K mainGlobals "len" = some none) (z2 : PySem.W.nsIn K mainGlobals "abs" = some none) (z3 : PySem.W.nsIn K mainGlobals "repr" = some none) (z4 : PySem.W.nsIn K mainGlobals "range" = some none) (z5 : PySem.W.nsIn K mainGlobals "sum" = some none) (z6 : PySem.W.nsIn K mainGlobals "zip" = some none) (z7 : PySem.W.nsIn K mainGlobals "tuple" = some none) :
    ∃ fd : FuncData, (∀ (s : Shared) (v : Value), BindsTo s fd ⟨[v], []⟩ [("_law_script", v)]) ∧ ∀ base : Heap, K.In base → base.Ns mainGlobals mg → FnOk l.prog w K mg base CX0 7 fa fd ["_law_script"] (sp_law K) := by
  have e := hfa.symm.trans (PySem.W.mg_of X G a23)
  cases e
  generalize hcl : (⟨c_NoFraction, c_NOUGHT, c_ONE⟩ : Cl) = c
  have T : Txt K mg c := by rw [← hcl]; exact ⟨PySem.W.mg_none_of X G z0, PySem.W.mg_none_of X G z1, PySem.W.mg_none_of X G z2, PySem.W.mg_none_of X G z3, PySem.W.mg_none_of X G z4, PySem.W.mg_none_of X G z5, PySem.W.mg_none_of X G z6, PySem.W.mg_none_of X G z7, PySem.W.mg_of X G u_NoFraction, PySem.W.mg_of X G u_NOUGHT, PySem.W.mg_of X G u_ONE, x_NoFraction, ⟨ga_NoFraction, gt_NoFraction, su_NoFraction, (by rw [cl_NoFraction]; rfl), kc_NoFraction, kg_NoFraction, kt_NoFraction, ob_NoFraction⟩, o_NOUGHT, o_ONE⟩
  have F0 := fun_mk (st := s__law_feed) l0 c0 k0
  have b0 := F0.binds (ps := ["_law_script"]) fun _ _ _ _ _ _ us hl => match us, hl with | [_], _ => rfl
  have G__law_feed : ∀ base : Heap, FnC CX0 l.prog w K mg base 1 "_law_feed" ["_law_script"] (sp_feed K) := fun base => ⟨_, _, ok__law_feed F0 T, PySem.W.mg_of X G a0, k0, b0⟩
  have F1 := fun_mk (st := s__law_draw) l1 c1 k1
  have b1 := F1.binds (ps := ["_law_feed_here", "_law_many"]) fun _ _ _ _ _ _ us hl => match us, hl with | [_, _], _ => rfl
  have G__law_draw : ∀ base : Heap, FnC CX0 l.prog w K mg base 1 "_law_draw" ["_law_feed_here", "_law_many"] (sp_draw) := fun base => ⟨_, _, ok__law_draw F1 T, PySem.W.mg_of X G a1, k1, b1⟩
  have F2 := fun_mk (st := s_common_divisor) l2 c2 k2
  have b2 := F2.binds (ps := ["number", "above_nought"]) fun _ _ _ _ _ _ us hl => match us, hl with | [_, _], _ => rfl
  have G_common_divisor : ∀ base : Heap, FnC CX0 l.prog w K mg base 1 "common_divisor" ["number", "above_nought"] (sp_cd) := fun base => ⟨_, _, ok_common_divisor F2 T, PySem.W.mg_of X G a2, k2, b2⟩
  have F3 := fun_mk (st := s_plus) l3 c3 k3
  have b3 := F3.binds (ps := ["one", "other"]) fun _ _ _ _ _ _ us hl => match us, hl with | [_, _], _ => rfl
  have G_plus : ∀ base : Heap, FnC CX0 l.prog w K mg base 2 "plus" ["one", "other"] (sp_plus K) := fun base => ⟨_, _, ok_plus F3 T (G_common_divisor base), PySem.W.mg_of X G a3, k3, b3⟩
  have F4 := fun_mk (st := s_times) l4 c4 k4
  have b4 := F4.binds (ps := ["one", "other"]) fun _ _ _ _ _ _ us hl => match us, hl with | [_, _], _ => rfl
  have G_times : ∀ base : Heap, FnC CX0 l.prog w K mg base 2 "times" ["one", "other"] (sp_times K) := fun base => ⟨_, _, ok_times F4 T (G_common_divisor base), PySem.W.mg_of X G a4, k4, b4⟩
  have F5 := fun_mk (st := s_over) l5 c5 k5
  have b5 := F5.binds (ps := ["one", "other"]) fun _ _ _ _ _ _ us hl => match us, hl with | [_, _], _ => rfl
  have G_over : ∀ base : Heap, FnC (CX1 l.prog w) l.prog w K mg base 3 "over" ["one", "other"] (sp_over K c.NoFraction) := fun base => ⟨_, _, ok_over F5 T (G_times base), PySem.W.mg_of X G a5, k5, b5⟩
  have F6 := fun_mk (st := s_total) l6 c6 k6
  have b6 := F6.binds (ps := ["some"]) fun _ _ _ _ _ _ us hl => match us, hl with | [_], _ => rfl
  have G_total : ∀ base : Heap, FnC CX0 l.prog w K mg base 3 "total" ["some"] (sp_total K) := fun base => ⟨_, _, ok_total F6 T (G_plus base), PySem.W.mg_of X G a6, k6, b6⟩
  have F7 := fun_mk (st := s_faces_of) l7 c7 k7
  have b7 := F7.binds (ps := ["trial"]) fun _ _ _ _ _ _ us hl => match us, hl with | [_], _ => rfl
  have G_faces_of : ∀ base : Heap, FnC CX0 l.prog w K mg base 1 "faces_of" ["trial"] (sp_facesof) := fun base => ⟨_, _, ok_faces_of F7 T, PySem.W.mg_of X G a7, k7, b7⟩
  have F8 := fun_mk (st := s_ways_of) l8 c8 k8
  have b8 := F8.binds (ps := ["trial"]) fun _ _ _ _ _ _ us hl => match us, hl with | [_], _ => rfl
  have G_ways_of : ∀ base : Heap, FnC CX0 l.prog w K mg base 1 "ways_of" ["trial"] (sp_waysof) := fun base => ⟨_, _, ok_ways_of F8 T, PySem.W.mg_of X G a8, k8, b8⟩
  have F9 := fun_mk (st := s_way_shares) l9 c9 k9
  have b9 := F9.binds (ps := ["trial", "way"]) fun _ _ _ _ _ _ us hl => match us, hl with | [_, _], _ => rfl
  have G_way_shares : ∀ base : Heap, FnC CX0 l.prog w K mg base 1 "way_shares" ["trial", "way"] (sp_wsh) := fun base => ⟨_, _, ok_way_shares F9 T, PySem.W.mg_of X G a9, k9, b9⟩
  have F10 := fun_mk (st := s_counts_of) l10 c10 k10
  have b10 := F10.binds (ps := ["trial", "row"]) fun _ _ _ _ _ _ us hl => match us, hl with | [_, _], _ => rfl
  have G_counts_of : ∀ base : Heap, FnC CX0 l.prog w K mg base 2 "counts_of" ["trial", "row"] (sp_cntof) := fun base => ⟨_, _, ok_counts_of F10 T (G_faces_of base), PySem.W.mg_of X G a10, k10, b10⟩
  have F11 := fun_mk (st := s_share_of) l11 c11 k11
  have b11 := F11.binds (ps := ["trial", "way", "row"]) fun _ _ _ _ _ _ us hl => match us, hl with | [_, _, _], _ => rfl
  have G_share_of : ∀ base : Heap, FnC CX0 l.prog w K mg base 3 "share_of" ["trial", "way", "row"] (sp_shof K) := fun base => ⟨_, _, ok_share_of F11 T (G_way_shares base) (G_times base), PySem.W.mg_of X G a11, k11, b11⟩
  have F12 := fun_mk (st := s_power) l12 c12 k12
  have b12 := F12.binds (ps := ["share", "count"]) fun _ _ _ _ _ _ us hl => match us, hl with | [_, _], _ => rfl
  have G_power : ∀ base : Heap, FnC CX0 l.prog w K mg base 1 "power" ["share", "count"] (sp_power K) := fun base => ⟨_, _, ok_power F12 T, PySem.W.mg_of X G a12, k12, b12⟩
  have F13 := fun_mk (st := s_weight) l13 c13 k13
  have b13 := F13.binds (ps := ["trial", "way", "counts"]) fun _ _ _ _ _ _ us hl => match us, hl with | [_, _, _], _ => rfl
  have G_weight : ∀ base : Heap, FnC CX0 l.prog w K mg base 3 "weight" ["trial", "way", "counts"] (sp_weight K) := fun base => ⟨_, _, ok_weight F13 T (G_way_shares base) (G_times base) (G_power base), PySem.W.mg_of X G a13, k13, b13⟩
  have F14 := fun_mk (st := s_rows_to) l14 c14 k14
  have b14 := F14.binds (ps := ["counts"]) fun _ _ _ _ _ _ us hl => match us, hl with | [_], _ => rfl
  have G_rows_to : ∀ base : Heap, FnC CX0 l.prog w K mg base 1 "rows_to" ["counts"] (sp_rowsto) := fun base => ⟨_, _, ok_rows_to F14 T, PySem.W.mg_of X G a14, k14, b14⟩
  have F15 := fun_mk (st := s_counts_that_are) l15 c15 k15
  have b15 := F15.binds (ps := ["faces", "many"]) fun _ _ _ _ _ _ us hl => match us, hl with | [_, _], _ => rfl
  have G_counts_that_are : ∀ (n : Nat) (base : Heap), FnC CX0 l.prog w K mg base (1 + n) "counts_that_are" ["faces", "many"] (sp_cta n) := fun n => by
    induction n with
    | zero => exact fun base => ⟨_, _, ok0_counts_that_are F15 T, PySem.W.mg_of X G a15, k15, b15⟩
    | succ n ih => exact fun base => ⟨_, _, ok_counts_that_are n F15 T (ih base), PySem.W.mg_of X G a15, k15, b15⟩
  have F16 := fun_mk (st := s_all_counts) l16 c16 k16
  have b16 := F16.binds (ps := ["faces", "most"]) fun _ _ _ _ _ _ us hl => match us, hl with | [_, _], _ => rfl
  have G_all_counts : ∀ base : Heap, FnC CX0 l.prog w K mg base 6 "all_counts" ["faces", "most"] (sp_allc) := fun base => ⟨_, _, ok_all_counts F16 T (G_counts_that_are 4 base), PySem.W.mg_of X G a16, k16, b16⟩
  have F17 := fun_mk (st := s_ways_behind) l17 c17 k17
  have b17 := F17.binds (ps := ["trial", "mix", "counts"]) fun _ _ _ _ _ _ us hl => match us, hl with | [_, _, _], _ => rfl
  have G_ways_behind : ∀ base : Heap, FnC CX0 l.prog w K mg base 4 "ways_behind" ["trial", "mix", "counts"] (sp_behind) := fun base => ⟨_, _, ok_ways_behind F17 T (G_ways_of base) (G_times base) (G_weight base) (G_total base) (G_over base), PySem.W.mg_of X G a17, k17, b17⟩
  have F18 := fun_mk (st := s__law_low) l18 c18 k18
  have b18 := F18.binds (ps := ["_law_n", "_law_d"]) fun _ _ _ _ _ _ us hl => match us, hl with | [_, _], _ => rfl
  have G__law_low : ∀ base : Heap, FnC CX0 l.prog w K mg base 1 "_law_low" ["_law_n", "_law_d"] (sp_low) := fun base => ⟨_, _, ok__law_low F18 T, PySem.W.mg_of X G a18, k18, b18⟩
  have F19 := fun_mk (st := s__law_shares) l19 c19 k19
  have b19 := F19.binds (ps := ["_law_feed_here", "_law_many"]) fun _ _ _ _ _ _ us hl => match us, hl with | [_, _], _ => rfl
  have G__law_shares : ∀ base : Heap, FnC CX0 l.prog w K mg base 2 "_law_shares" ["_law_feed_here", "_law_many"] (sp_shares) := fun base => ⟨_, _, ok__law_shares F19 T (G__law_draw base) (G__law_low base), PySem.W.mg_of X G a19, k19, b19⟩
  have F20 := fun_mk (st := s__law_trial) l20 c20 k20
  have b20 := F20.binds (ps := ["_law_feed_here"]) fun _ _ _ _ _ _ us hl => match us, hl with | [_], _ => rfl
  have G__law_trial : ∀ base : Heap, FnC CX0 l.prog w K mg base 3 "_law_trial" ["_law_feed_here"] (sp_trial) := fun base => ⟨_, _, ok__law_trial F20 T (G__law_draw base) (G__law_shares base), PySem.W.mg_of X G a20, k20, b20⟩
  have F21 := fun_mk (st := s__law_longer) l21 c21 k21
  have b21 := F21.binds (ps := ["_law_rows_here", "_law_faces"]) fun _ _ _ _ _ _ us hl => match us, hl with | [_, _], _ => rfl
  have G__law_longer : ∀ base : Heap, FnC CX0 l.prog w K mg base 1 "_law_longer" ["_law_rows_here", "_law_faces"] (sp_longer) := fun base => ⟨_, _, ok__law_longer F21 T, PySem.W.mg_of X G a21, k21, b21⟩
  have F22 := fun_mk (st := s__law_rows) l22 c22 k22
  have b22 := F22.binds (ps := ["_law_faces", "_law_many"]) fun _ _ _ _ _ _ us hl => match us, hl with | [_, _], _ => rfl
  have G__law_rows : ∀ base : Heap, FnC CX0 l.prog w K mg base 2 "_law_rows" ["_law_faces", "_law_many"] (sp_rows) := fun base => ⟨_, _, ok__law_rows F22 T (G__law_longer base), PySem.W.mg_of X G a22, k22, b22⟩
  have F23 := fun_mk (st := s_law) l23 c23 k23
  exact ⟨_, fun s v => .of_eq rfl, fun base _ _ => ok_law F23 T (G__law_feed base) (G__law_draw base) (G__law_shares base) (G__law_trial base) (G__law_rows base) (G_all_counts base) (G_total base) (G_share_of base) (G_times base) (G_rows_to base) (G_weight base) (G_counts_of base) (G_ways_behind base) (G_plus base)⟩
end Kw
open PySem PySem.W PyProof.Rows
set_option maxRecDepth 100000 in
set_option maxHeartbeats 0 in
theorem PySem.Challenge.cw_earlystop_k12_whole_rows_come_to_one_holds : PySem.Challenge.rw_earlystop_k12_whole_rows_come_to_one.Holds := by
  w_on; o_law; k_head; (case hw => w_witness2)
  k_fill
  refine L2.walk_ofK (l := PySem.Challenge.rw_earlystop_k12_whole_rows_come_to_one) (n := 63) (k := 7) (x := "_law_script") (CX := L2.CX0) (sp := fun K => Kw.sp_law K) rfl (by decide) rfl ⟨rfl, by decide, by decide, rfl⟩ (fun w h Y => PySem.W.kIn_of Y) ?F (fun K H a ns hl _ hS => Kw.sp_law_i hS hl) (fun _ _ _ _ z => z)
  case F =>
    intro w mg fa h KX G hmg
    refine' Kw.all_mk KX G hmg ?u_NoFraction ?u_NOUGHT ?u_ONE ?x_NoFraction ?ga_NoFraction ?gt_NoFraction ?su_NoFraction ?cl_NoFraction ?kc_NoFraction ?kg_NoFraction ?kt_NoFraction ?ob_NoFraction ?o_NOUGHT ?o_ONE ?a0 ?l0 ?c0 ?k0 ?a1 ?l1 ?c1 ?k1 ?a2 ?l2 ?c2 ?k2 ?a3 ?l3 ?c3 ?k3 ?a4 ?l4 ?c4 ?k4 ?a5 ?l5 ?c5 ?k5 ?a6 ?l6 ?c6 ?k6 ?a7 ?l7 ?c7 ?k7 ?a8 ?l8 ?c8 ?k8 ?a9 ?l9 ?c9 ?k9 ?a10 ?l10 ?c10 ?k10 ?a11 ?l11 ?c11 ?k11 ?a12 ?l12 ?c12 ?k12 ?a13 ?l13 ?c13 ?k13 ?a14 ?l14 ?c14 ?k14 ?a15 ?l15 ?c15 ?k15 ?a16 ?l16 ?c16 ?k16 ?a17 ?l17 ?c17 ?k17 ?a18 ?l18 ?c18 ?k18 ?a19 ?l19 ?c19 ?k19 ?a20 ?l20 ?c20 ?k20 ?a21 ?l21 ?c21 ?k21 ?a22 ?l22 ?c22 ?k22 ?a23 ?l23 ?c23 ?k23 ?z0 ?z1 ?z2 ?z3 ?z4 ?z5 ?z6 ?z7
    (case u_NoFraction => k_is); (case u_NOUGHT => k_is); (case u_ONE => k_is); (case x_NoFraction => k_exc); (case ga_NoFraction => k_is); (case gt_NoFraction => k_is); (case su_NoFraction => k_is); (case cl_NoFraction => k_is); (case kc_NoFraction => k_is); (case kg_NoFraction => k_is); (case kt_NoFraction => k_is); (case ob_NoFraction => k_is); (case o_NOUGHT => kernel_rfl); (case o_ONE => kernel_rfl); (case a0 => k_is); (case l0 => k_is); (case c0 => k_is); (case k0 => k_is); (case a1 => k_is); (case l1 => k_is); (case c1 => k_is); (case k1 => k_is); (case a2 => k_is); (case l2 => k_is); (case c2 => k_is); (case k2 => k_is); (case a3 => k_is); (case l3 => k_is); (case c3 => k_is); (case k3 => k_is); (case a4 => k_is); (case l4 => k_is); (case c4 => k_is); (case k4 => k_is); (case a5 => k_is); (case l5 => k_is); (case c5 => k_is); (case k5 => k_is); (case a6 => k_is); (case l6 => k_is); (case c6 => k_is); (case k6 => k_is); (case a7 => k_is); (case l7 => k_is); (case c7 => k_is); (case k7 => k_is); (case a8 => k_is); (case l8 => k_is); (case c8 => k_is); (case k8 => k_is); (case a9 => k_is); (case l9 => k_is); (case c9 => k_is); (case k9 => k_is); (case a10 => k_is); (case l10 => k_is); (case c10 => k_is); (case k10 => k_is); (case a11 => k_is); (case l11 => k_is); (case c11 => k_is); (case k11 => k_is); (case a12 => k_is); (case l12 => k_is); (case c12 => k_is); (case k12 => k_is); (case a13 => k_is); (case l13 => k_is); (case c13 => k_is); (case k13 => k_is); (case a14 => k_is); (case l14 => k_is); (case c14 => k_is); (case k14 => k_is); (case a15 => k_is); (case l15 => k_is); (case c15 => k_is); (case k15 => k_is); (case a16 => k_is); (case l16 => k_is); (case c16 => k_is); (case k16 => k_is); (case a17 => k_is); (case l17 => k_is); (case c17 => k_is); (case k17 => k_is); (case a18 => k_is); (case l18 => k_is); (case c18 => k_is); (case k18 => k_is); (case a19 => k_is); (case l19 => k_is); (case c19 => k_is); (case k19 => k_is); (case a20 => k_is); (case l20 => k_is); (case c20 => k_is); (case k20 => k_is); (case a21 => k_is); (case l21 => k_is); (case c21 => k_is); (case k21 => k_is); (case a22 => k_is); (case l22 => k_is); (case c22 => k_is); (case k22 => k_is); (case a23 => k_is); (case l23 => k_is); (case c23 => k_is); (case k23 => k_is); (case z0 => k_is); (case z1 => k_is); (case z2 => k_is); (case z3 => k_is); (case z4 => k_is); (case z5 => k_is); (case z6 => k_is); (case z7 => k_is)
