import PyProof.Rows.All
import Wide.All
import OpenK.AllK
import Wide.FinOn
import Lean
import PyProof.EqAt
import PyProof.EqKinds
import PyProof.TupleCall
import PyProof.StationsW
import PyProof.Rows.CatchBare
import OpenK.KRaise
import KE.KIsAll
import OpenK.KOwn
import PyProof.Rows.Digits
import PyProof.Rows.StrOr
import PyProof.StrCalls2
import PyProof.StrBlock2
import KE.KIntText
import KE.KRevIter
import KE.LcSums
import PyProof.SliceStr2
import PyProof.StrBlockG
import PyProof.JoinWalk
import PyProof.StrWalks
import PyProof.EnumMake
import PyProof.StrLawsIn
import PyProof.StrLawsIdx
import PyProof.StrLawsChain
import PyProof.Rows.StrSplitCount
import PyProof.Rows.StrSplitJoin
import KE.IntTextText
import PySem.Challenge.RW_earlystop_k04_fractions_written
set_option Elab.async false
set_option linter.all false
set_option maxRecDepth 100000
/-! THE HAND LAYER, for ints, bools, texts, own classes, LISTS and tuples (index, slices, in, append, pop ..), calls, loops. Paste it whole ahead of your own text; what your proof does not reach may be deleted. -/
namespace L2
open PySem PySem.Spec PyProof.Rows

/-- a key: an int or a str -/
abbrev Key := Sum Int Str
def keyIs : Key → Value → Bool
  | .inl k, v => Value.isInt k v
  | .inr x, v => Value.isStrOf x v
def keyH (w : World) : Key → Int
  | .inl k => hashInt k
  | .inr x => hashStr w x
theorem keyIs_shape : ∀ {k : Key} {v : Value}, keyIs k v = true → (∃ i t, k = Sum.inl i ∧ v = Value.int i t) ∨ (∃ x t, k = Sum.inr x ∧ v = Value.str x t)
  | .inl i, v, h => by
    obtain ⟨t, e⟩ := Value.isInt_shape (k := i) (v := v) h
    exact .inl ⟨i, t, rfl, e⟩
  | .inr x, v, h => by
    obtain ⟨t, e⟩ := Value.isStrOf_shape (x := x) (v := v) h
    exact .inr ⟨x, t, rfl, e⟩
theorem keyIs_int (i : Int) (t : Tok) : keyIs (.inl i) (.int i t) = true := by simp [keyIs, Value.isInt]
theorem keyIs_str (x : Str) (t : Tok) : keyIs (.inr x) (.str x t) = true := by simp [keyIs, Value.isStrOf]
theorem key_ll (a b : Int) : decide ((Sum.inl a : Key) = Sum.inl b) = (a == b) := by
  by_cases e : a = b
  · subst e; simp
  · have h : ¬ (Sum.inl a : Key) = Sum.inl b := fun q => e (Sum.inl.inj q)
    rw [decide_eq_false h]
    exact (beq_eq_false_iff_ne.mpr e).symm
theorem key_rr (a b : Str) : decide ((Sum.inr a : Key) = Sum.inr b) = decide (a = b) := by
  by_cases e : a = b
  · subst e; simp
  · have h : ¬ (Sum.inr a : Key) = Sum.inr b := fun q => e (Sum.inr.inj q)
    rw [decide_eq_false h, decide_eq_false e]
theorem key_lr (a : Int) (b : Str) : decide ((Sum.inl a : Key) = Sum.inr b) = false := decide_eq_false (fun q => nomatch q)
theorem key_rl (a : Str) (b : Int) : decide ((Sum.inr a : Key) = Sum.inl b) = false := decide_eq_false (fun q => nomatch q)

def mixKind (prog : Program) (w : World) : PySem.KeyKind prog w Key where
  is := keyIs
  hash := keyH w
  inj := fun v a b ha hb => by
    rcases keyIs_shape ha with ⟨i, t, rfl, rfl⟩ | ⟨x, t, rfl, rfl⟩
    · rcases keyIs_shape hb with ⟨j, u, rfl, e⟩ | ⟨y, u, rfl, e⟩
      · injection e with e1 _; rw [e1]
      · exact nomatch e
    · rcases keyIs_shape hb with ⟨j, u, rfl, e⟩ | ⟨y, u, rfl, e⟩
      · exact nomatch e
      · injection e with e1 _; rw [e1]
  byValue := fun k v h => by
    rcases keyIs_shape h with ⟨i, t, rfl, rfl⟩ | ⟨x, t, rfl, rfl⟩ <;> rfl
  pyHash := fun hv h => by
    rcases keyIs_shape hv with ⟨i, t, rfl, rfl⟩ | ⟨x, t, rfl, rfl⟩
    · exact wpAny_pyHash_int h
    · exact wpAny_pyHash_str h
  eqBool := fun hu hv h => by
    rcases keyIs_shape hu with ⟨i, t, rfl, rfl⟩ | ⟨x, t, rfl, rfl⟩
    · rcases keyIs_shape hv with ⟨j, u, rfl, rfl⟩ | ⟨y, u, rfl, rfl⟩
      · rw [key_ll] at h; exact wpAny_eqBool_int h
      · rw [key_lr] at h; exact SeqAt.EqAt.int_str i t y u _ _ _ _ h
    · rcases keyIs_shape hv with ⟨j, u, rfl, rfl⟩ | ⟨y, u, rfl, rfl⟩
      · rw [key_rl] at h; exact SeqAt.EqAt.str_int x t j u _ _ _ _ h
      · rw [key_rr] at h; exact wpAny_eqBool_str h
  «strs» := fun k x t v h => by
    rcases keyIs_shape h with ⟨i, u, rfl, e⟩ | ⟨y, u, rfl, e⟩
    · exact nomatch e
    · injection e with e1 _
      subst e1
      cases v <;> rfl

theorem mixKind_is (prog : Program) (w : World) (k : Key) (v : Value) : (mixKind prog w).is k v = keyIs k v := rfl
theorem mixKind_int (prog : Program) (w : World) (i : Int) (t : Tok) : (mixKind prog w).is (.inl i) (.int i t) = true := keyIs_int i t
theorem mixKind_str (prog : Program) (w : World) (x : Str) (t : Tok) : (mixKind prog w).is (.inr x) (.str x t) = true := keyIs_str x t
end L2

namespace L2
open PySem PySem.Spec PyProof.Rows

/-- a value, without the heap -/
inductive V where
  | non | bl (b : Bool) | int (i : Int) | str (x : Str) | byt (b : Array UInt8) | flt (b : UInt64) | ref (a : Addr) | ty (n : String)
  deriving DecidableEq

def RelV : V → Value → Prop
  | .non, u => u = Value.none
  | .bl b, u => u = Value.bool b
  | .int i, u => ∃ t, u = Value.int i t
  | .str x, u => ∃ t, u = Value.str x t
  | .byt b, u => ∃ t, u = Value.bytes b t
  | .flt b, u => ∃ t, u = Value.float b t
  | .ref a, u => u = Value.ref a
  | .ty n, u => u = Value.type n

abbrev Vals : List V → List Value → Prop := Paired RelV
theorem Vals.length {xs : List V} {us : List Value} (r : Vals xs us) : xs.length = us.length := Paired.length r
theorem Vals.get : ∀ {xs : List V} {us : List Value} {i : Nat} {x : V}, Vals xs us → xs[i]? = some x → ∃ u, us[i]? = some u ∧ RelV x u
  | _, _, _, _, .nil, e => by simp at e
  | _, _, 0, _, .cons r _, e => by simp at e; subst e; exact ⟨_, rfl, r⟩
  | _, _, i + 1, x, .cons _ t, e => by
    obtain ⟨u, h1, h2⟩ := Vals.get (i := i) (x := x) t (by simpa using e)
    exact ⟨u, by simpa using h1, h2⟩
theorem Vals.set {x : V} {u : Value} (r : RelV x u) : ∀ {xs : List V} {us : List Value} (i : Nat), Vals xs us → Vals (xs.set i x) (us.set i u)
  | _, _, _, .nil => .nil
  | _, _, 0, .cons _ t => .cons r t
  | _, _, i + 1, .cons q t => .cons q (Vals.set r i t)
theorem Vals.append : ∀ {xs ys : List V} {us ws : List Value}, Vals xs us → Vals ys ws → Vals (xs ++ ys) (us ++ ws)
  | _, _, _, _, .nil, s => s
  | _, _, _, _, .cons r t, s => .cons r (Vals.append t s)
theorem Vals.take : ∀ {xs : List V} {us : List Value} (n : Nat), Vals xs us → Vals (xs.take n) (us.take n)
  | _, _, 0, _ => .nil
  | _, _, _ + 1, .nil => .nil
  | _, _, n + 1, .cons r t => .cons r (Vals.take n t)
theorem Vals.drop : ∀ {xs : List V} {us : List Value} (n : Nat), Vals xs us → Vals (xs.drop n) (us.drop n)
  | _, _, 0, r => r
  | _, _, _ + 1, .nil => .nil
  | _, _, n + 1, .cons _ t => Vals.drop n t
theorem Vals.none_of : ∀ {xs : List V} {us : List Value} {i : Nat}, Vals xs us → xs[i]? = none → us[i]? = none := fun {xs us i} r e => by
  have h1 := r.length
  have h2 : xs.length ≤ i := List.getElem?_eq_none_iff.mp e
  exact List.getElem?_eq_none_iff.mpr (by omega)

def RelO : Option V → Option Value → Prop
  | some v, some u => RelV v u
  | none, none => True
  | _, _ => False
def KV {κ : Type} : List (κ × V) → List (κ × Value) → Prop := Paired fun (p : κ × V) (q : κ × Value) => p.1 = q.1 ∧ RelV p.2 q.2

/-- a key of a dict (00_mix): an int or a text -/
def kV : Key → V
  | .inl i => .int i
  | .inr x => .str x

/-- what stands at a tracked address -/
inductive HO where
  /-- a list -/
  | lst (xs : List V)
  /-- a tuple (never changes) -/
  | tup (xs : List V)
  /-- a dict whose keys are ints and texts; one whose keys are tuples of ints and texts (the empty one is both) -/
  | dK (kvs : List (Key × V)) | dT (kvs : List (List Key × V))
  /-- a set of ints: its members, its size -/
  | set (S : Int → Bool) (n : Nat)
  /-- an instance of the class at C, its dict at dx, its attributes -/
  | ins (C dx : Addr) (fs : List (Str × V))
  /-- the dict of the instance at x -/
  | own (x : Addr)
  /-- the dict of an exception -/
  | xd (fs : List (Str × V))
  /-- a bound method, f of x -/
  | met (f x : Addr)
  /-- a range object lo, lo + 1, .. below hi -/
  | rng (lo hi : Int)
  /-- a thing that is known to the object (the script; a dict while a loop walks it): read, never written while it is so -/
  | frz (o : Obj) (u : HO)
  /-- a code object's table -/
  | tbl (ps : Array Value)
  /-- any other thing, by what is true of its one object (a def of one's own: SetO a S n := HO.ext fun h => ..) -/
  | ext (φ : Heap → Prop)

abbrev Hp := Addr → Option HO
def upd (H : Hp) (a : Addr) (o : HO) : Hp := fun b => if b = a then some o else H b
theorem upd_same {H : Hp} {a : Addr} {o : HO} : upd H a o a = some o := by unfold upd; rw [if_pos rfl]
theorem upd_ne {H : Hp} {a b : Addr} {o : HO} (h : b ≠ a) : upd H a o b = H b := by unfold upd; rw [if_neg h]
theorem upd_upd {H : Hp} {a : Addr} {o u : HO} : upd (upd H a o) a u = upd H a u := by
  funext b; unfold upd; split <;> rfl
/-- two objects of different content stand apart -/
theorem ne_of {H : Hp} {a b : Addr} {o u : HO} (h : H a = some o) (h' : H b = some u) (d : o ≠ u) : a ≠ b := by
  intro e; subst e; rw [h] at h'; exact d (Option.some.inj h')
theorem ne_of_none {H : Hp} {a b : Addr} {o : HO} (h : H a = some o) (h' : H b = none) : a ≠ b := by
  intro e; subst e; rw [h] at h'; cases h'

section
variable (P : Program) (w : World)
def ObjOk (H : Hp) (h : Heap) (a : Addr) : HO → Prop
  | .lst xs => xs.length ≤ sizeLine ∧ ∃ (its : List Value) (n : Nat), Vals xs its ∧ h.get? a = some { cls := .type "list", data := .seq its.toArray n }
  | .tup xs => xs.length ≤ sizeLine ∧ ∃ its : List Value, Vals xs its ∧ IsTup h a its.toArray
  | .dK kvs => kvs.length ≤ sizeLine ∧ (a == sysModules) = false ∧ ∃ vs, KV kvs vs ∧ h.DictOf (mixKind P w) a vs
  | .dT kvs => kvs.length ≤ sizeLine ∧ (a == sysModules) = false ∧ ∃ xs : List (List Key × Addr × Value),
      Paired (fun (p : List Key × V) (q : List Key × Addr × Value) => p.1 = q.1 ∧ H q.2.1 = some (.tup (p.1.map kV)) ∧ RelV p.2 q.2.2) kvs xs ∧
      ∃ o es ep, h.get? a = some o ∧ o.ExactDict ∧ o.data = .dict es ep ∧ es.toList = xs.map (entryOfKey (tupleKind (mixKind P w))) ∧ (xs.map (·.1)).Nodup
  | .set S n => h.SetOf (intKind P w) a S n
  | .ins C dx fs => H dx = some (.own a) ∧ fs.length ≤ 1000 ∧ dx ≠ a ∧ h.get? a = some (PySem.W.instObj C dx) ∧
      ∃ mA, h.Ns1 dx mA ∧ (∀ f, RelO (fs.lookup f) (mA f)) ∧ PySem.Within mA (fs.map (·.1))
  | .own _ => ∃ o, h.get? a = some o
  | .xd fs => ∃ mA, h.Ns1 a mA ∧ ∀ f, RelO (fs.lookup f) (mA f)
  | .rng lo hi => ∃ t u v, h.get? a = some { cls := .type "range", data := .fields #[.int lo t, .int hi u, .int 1 v] }
  | .frz o u => h.get? a = some o ∧ ObjOk H h a u
  | .tbl ps => h.get? a = some { cls := .none, data := .fields ps }
  | .met f x => h.get? a = some (PySem.W.methodObj (.ref f) (.ref x))
  | .ext φ => φ h ∧ (∃ o, h.get? a = some o) ∧ ∀ h1 h2 : Heap, φ h1 → (∀ o, h1.get? a = some o → h2.get? a = some o) → φ h2
/-- the abstract heap is held -/
def HOk (H : Hp) (h : Heap) : Prop := ∀ a o, H a = some o → ObjOk P w H h a o
end

section
variable {P : Program} {w : World} {H H' : Hp} {h h' : Heap} {a : Addr} {o : HO}
theorem ObjOk.lt (x : ObjOk P w H h a o) : a < h.objs.size := by
  cases o with
  | lst xs => obtain ⟨_, _, _, _, e⟩ := x; exact Heap.lt_size e
  | tup xs => obtain ⟨_, _, _, p⟩ := x; exact p.lt
  | dK kvs => obtain ⟨_, _, _, _, o, _, _, e, _⟩ := x; exact Heap.lt_size e
  | dT kvs => obtain ⟨_, _, _, _, o, _, _, e, _⟩ := x; exact Heap.lt_size e
  | set S n => obtain ⟨o, _, _, _, e, _⟩ := x; exact Heap.lt_size e
  | ins C dx fs => obtain ⟨_, _, _, e, _⟩ := x; exact Heap.lt_size e
  | own y => obtain ⟨_, e⟩ := x; exact Heap.lt_size e
  | xd fs => obtain ⟨_, ⟨_, _, _, e, _⟩, _⟩ := x; exact Heap.lt_size e
  | rng lo hi => obtain ⟨_, _, _, e⟩ := x; exact Heap.lt_size e
  | frz ob u => obtain ⟨e, _⟩ := x; exact Heap.lt_size e
  | tbl ps => exact Heap.lt_size (show h.get? a = some _ from x)
  | met f y => exact Heap.lt_size (show h.get? a = some _ from x)
  | ext φ => obtain ⟨_, ⟨_, e⟩, _⟩ := x; exact Heap.lt_size e
theorem Paired.mapP {α β : Type} {F G : α → β → Prop} : ∀ {l₁ : List α} {l₂ : List β}, Paired F l₁ l₂ → (∀ a b, F a b → G a b) → Paired G l₁ l₂
  | _, _, .nil, _ => .nil
  | _, _, .cons r t, f => .cons (f _ _ r) (Paired.mapP t f)
theorem Paired.imp' {α β : Type} {F G : α → β → Prop} (f : ∀ a b, F a b → G a b) {l₁ : List α} {l₂ : List β} (r : Paired F l₁ l₂) : Paired G l₁ l₂ := Paired.mapP r f
/-- what an object's description leans on: its own object, its own dict, the tuples -/
theorem ObjOk.stay (x : ObjOk P w H h a o) (k : ∀ b u, (b = a ∨ H b = some (.own a)) → h.get? b = some u → h'.get? b = some u)
    (ho : ∀ b, H b = some (.own a) → H' b = some (.own a)) (ht : ∀ b xs, H b = some (.tup xs) → H' b = some (.tup xs)) : ObjOk P w H' h' a o := by
  induction o with
  | lst xs => obtain ⟨z, its, n, r, e⟩ := x; exact ⟨z, its, n, r, k _ _ (.inl rfl) e⟩
  | tup xs => obtain ⟨z, its, r, ob, e, c⟩ := x; exact ⟨z, its, r, ob, k _ _ (.inl rfl) e, c⟩
  | dK kvs => obtain ⟨z, y, vs, r, ob, es, ep, e, c⟩ := x; exact ⟨z, y, vs, r, ob, es, ep, k _ _ (.inl rfl) e, c⟩
  | dT kvs =>
    obtain ⟨z, y, xs, r, ob, es, ep, e, c⟩ := x
    exact ⟨z, y, xs, Paired.mapP r fun p q z => ⟨z.1, ht _ _ z.2.1, z.2.2⟩, ob, es, ep, k _ _ (.inl rfl) e, c⟩
  | set S n => obtain ⟨ob, es, ep, t, e, c⟩ := x; exact ⟨ob, es, ep, t, k _ _ (.inl rfl) e, c⟩
  | ins C dx fs =>
    obtain ⟨d, z, ne, e, mA, ⟨od, es, ep, e2, c⟩, r⟩ := x
    exact ⟨ho _ d, z, ne, k _ _ (.inl rfl) e, mA, ⟨od, es, ep, k _ _ (.inr d) e2, c⟩, r⟩
  | own y => obtain ⟨ob, e⟩ := x; exact ⟨ob, k _ _ (.inl rfl) e⟩
  | xd fs => obtain ⟨mA, ⟨od, es, ep, e, c⟩, r⟩ := x; exact ⟨mA, ⟨od, es, ep, k _ _ (.inl rfl) e, c⟩, r⟩
  | rng lo hi => obtain ⟨t, u, v, e⟩ := x; exact ⟨t, u, v, k _ _ (.inl rfl) e⟩
  | frz ob u ih => obtain ⟨e, q⟩ := x; exact ⟨k _ _ (.inl rfl) e, ih q⟩
  | tbl ps =>
    have e : h.get? a = some { cls := .none, data := .fields ps } := x
    show h'.get? a = some { cls := .none, data := .fields ps }
    exact k a _ (.inl rfl) e
  | met f y =>
    have e : h.get? a = some (PySem.W.methodObj (.ref f) (.ref y)) := x
    show h'.get? a = some (PySem.W.methodObj (.ref f) (.ref y))
    exact k a _ (.inl rfl) e
  | ext φ => obtain ⟨p, ⟨o, e⟩, st⟩ := x; exact ⟨st _ _ p fun o q => k _ _ (.inl rfl) q, ⟨o, k _ _ (.inl rfl) e⟩, st⟩
theorem HOk.lt (x : HOk P w H h) (e : H a = some o) : a < h.objs.size := (x a o e).lt
theorem HOk.fresh (x : HOk P w H h) (e : h.objs.size ≤ a) : H a = none := by
  cases q : H a with
  | none => rfl
  | some u => exact absurd (Nat.lt_of_lt_of_le (x.lt q) e) (Nat.lt_irrefl _)
/-- every object of the heap is kept -/
theorem HOk.kept (x : HOk P w H h) (k : ∀ b u, h.get? b = some u → h'.get? b = some u) : HOk P w H h' := fun a o e =>
  (x a o e).stay (fun b u _ q => k b u q) (fun _ q => q) fun _ _ q => q
/-- a new object is laid and tracked -/
theorem HOk.laid (x : HOk P w H h) (k : ∀ b u, h.get? b = some u → h'.get? b = some u) (hp : h.objs.size ≤ a) (new : ObjOk P w (upd H a o) h' a o) : HOk P w (upd H a o) h' := fun b u e => by
  have hn := x.fresh hp
  by_cases hb : b = a
  · subst hb; rw [upd_same] at e; cases e; exact new
  · rw [upd_ne hb] at e
    exact (x b u e).stay (fun c v _ q => k c v q) (fun c q => by rw [upd_ne (ne_of_none q hn)]; exact q) fun c xs q => by rw [upd_ne (ne_of_none q hn)]; exact q
end

/-- what may be read as u: it is u, or a known u -/
def Rd (H : Hp) (a : Addr) (u : HO) : Prop := H a = some u ∨ ∃ o, H a = some (.frz o u)
theorem Rd.of {H : Hp} {a : Addr} {u : HO} (h : H a = some u) : Rd H a u := .inl h
theorem Rd.ok {P : Program} {w : World} {H : Hp} {h : Heap} {a : Addr} {u : HO} (r : Rd H a u) (x : HOk P w H h) : ObjOk P w H h a u := by
  rcases r with r | ⟨o, r⟩
  · exact x a u r
  · obtain ⟨_, q⟩ := x a _ r
    exact q
/-- what may be written -/
def Mut : Option HO → Prop
  | some (.lst _) => True
  | some (.dK _) => True
  | some (.dT _) => True
  | some (.set _ _) => True
  | some (.ins _ _ _) => True
  | some (.ext _) => True
  | _ => False
section
variable {P : Program} {w : World} {H : Hp} {h h' : Heap} {x e : Addr} {o' : HO}
/-- the object at e is changed: x itself, or the dict of the instance x -/
theorem HOk.write (ok : HOk P w H h) (mu : Mut (H x)) (he : e = x ∨ H e = some (.own x)) (k : ∀ b u, b ≠ e → h.get? b = some u → h'.get? b = some u) (heo : ∃ u, h'.get? e = some u)
    (new : ObjOk P w (upd H x o') h' x o') : HOk P w (upd H x o') h' := fun b u q => by
  have nown : ∀ c y, H c = some (.own y) → c ≠ x := fun c y r z => by subst z; rw [r] at mu; exact mu
  have ntup : ∀ c xs, H c = some (.tup xs) → c ≠ x := fun c xs r z => by subst z; rw [r] at mu; exact mu
  by_cases hb : b = x
  · subst hb; rw [upd_same] at q; cases q; exact new
  · rw [upd_ne hb] at q
    by_cases hbe : b = e
    · have q' : H b = some (.own x) := by
        rcases he with z | z
        · exact absurd (hbe.trans z) hb
        · rw [hbe]; exact z
      rw [q] at q'; cases q'
      obtain ⟨v, hv⟩ := heo
      exact ⟨v, by rw [hbe]; exact hv⟩
    · refine (ok b u q).stay (fun c v hc r => k c v ?_ r) (fun c r => by rw [upd_ne (nown c b r)]; exact r) fun c xs r => by rw [upd_ne (ntup c xs r)]; exact r
      rcases hc with rfl | hc
      · exact hbe
      · rintro rfl
        rcases he with z | z
        · exact nown c b hc z
        · rw [hc] at z; cases z; exact hb rfl
end

/-! ### kept unless tracked; of the frames at fs (the callers') the slots may change (an exception that passes writes there); of the records at ex (iterators) nothing is said -/
structure Un (fs ex : List Addr) (H H' : Hp) (h h' : Heap) : Prop where
  keep : ∀ b o, h.get? b = some o → H b = none → b ∉ fs → b ∉ ex → h'.get? b = some o
  slot : ∀ b o, h.get? b = some o → H b = none → b ∈ fs → b ∉ ex → ∃ sl, h'.get? b = some { o with slots := sl }
  free : ∀ b o, h.get? b = some o → H b = none → b ∉ ex → H' b = none
  there : ∀ b o, h.get? b = some o → b ∉ ex → ∃ o', h'.get? b = some o'
  tups : ∀ b xs, H b = some (.tup xs) → H' b = some (.tup xs)
  frzs : ∀ b o u, H b = some (.frz o u) → H' b = some (.frz o u)
  tbls : ∀ b ps, H b = some (.tbl ps) → ∃ more, H' b = some (.tbl (ps ++ more))
section
variable {fs fs' ex ex' : List Addr} {H H1 H2 : Hp} {h h1 h2 h' : Heap} {a x e : Addr} {o : HO}
theorem Un.any (u : Un fs ex H H1 h h1) {b : Addr} {ob : Obj} (q : h.get? b = some ob) (n : H b = none) (hx : b ∉ ex) : ∃ sl, h1.get? b = some { ob with slots := sl } := by
  by_cases hb : b ∈ fs
  · exact u.slot b ob q n hb hx
  · exact ⟨ob.slots, u.keep b ob q n hb hx⟩
theorem Un.trans (a : Un fs ex H H1 h h1) (b : Un fs ex H1 H2 h1 h2) : Un fs ex H H2 h h2 where
  keep := fun c ob q n hc hx => b.keep c ob (a.keep c ob q n hc hx) (a.free c ob q n hx) hc hx
  slot := fun c ob q n hc hx => by
    obtain ⟨sl, e1⟩ := a.slot c ob q n hc hx
    obtain ⟨sl', e2⟩ := b.slot c _ e1 (a.free c ob q n hx) hc hx
    exact ⟨sl', e2⟩
  free := fun c ob q n hx => by
    obtain ⟨o', e1⟩ := a.there c ob q hx
    exact b.free c o' e1 (a.free c ob q n hx) hx
  there := fun c ob q hx => by
    obtain ⟨o', e1⟩ := a.there c ob q hx
    exact b.there c o' e1 hx
  tups := fun c xs q => b.tups c xs (a.tups c xs q)
  frzs := fun c ob xs q => b.frzs c ob xs (a.frzs c ob xs q)
  tbls := fun c ps q => by
    obtain ⟨m1, e1⟩ := a.tbls c ps q
    obtain ⟨m2, e2⟩ := b.tbls c _ e1
    exact ⟨m1 ++ m2, by rw [e2, Array.append_assoc]⟩
theorem Un.kept (k : ∀ b u, h.get? b = some u → h'.get? b = some u) : Un fs ex H H h h' :=
  ⟨fun b ob q _ _ _ => k b ob q, fun b ob q _ _ _ => ⟨ob.slots, k b ob q⟩, fun _ _ _ n _ => n, fun b ob q _ => ⟨ob, k b ob q⟩, fun _ _ q => q, fun _ _ _ q => q, fun _ ps q => ⟨#[], by rw [q]; simp⟩⟩
theorem Un.refl : Un fs ex H H h h := Un.kept fun _ _ q => q
theorem Un.laid (k : ∀ b u, h.get? b = some u → h'.get? b = some u) (hp : h.objs.size ≤ a) (hn : H a = none) : Un fs ex H (upd H a o) h h' where
  keep := fun b u q _ _ _ => k b u q
  slot := fun b u q _ _ _ => ⟨u.slots, k b u q⟩
  free := fun b u q n _ => by rw [upd_ne (Nat.ne_of_lt (Nat.lt_of_lt_of_le (Heap.lt_size q) hp))]; exact n
  there := fun b u q _ => ⟨u, k b u q⟩
  tups := fun b xs q => by rw [upd_ne (ne_of_none q hn)]; exact q
  frzs := fun b u xs q => by rw [upd_ne (ne_of_none q hn)]; exact q
  tbls := fun b ps q => ⟨#[], by rw [upd_ne (ne_of_none q hn), q]; simp⟩
theorem Un.write (mu : Mut (H x)) (he : e = x ∨ H e = some (.own x)) (k : ∀ b u, b ≠ e → h.get? b = some u → h'.get? b = some u) (heo : ∃ u, h'.get? e = some u) : Un fs ex H (upd H x o) h h' := by
  have hx : ∀ b, H b = none → b ≠ x := fun b n z => by subst z; rw [n] at mu; exact mu
  have hb : ∀ b, H b = none → b ≠ e := fun b n z => by
    subst z
    rcases he with r | r
    · exact hx b n r
    · rw [n] at r; cases r
  have hm : ∀ b u, H b = some u → ¬ Mut (some u) → b ≠ x := fun b u q nm z => by subst z; rw [q] at mu; exact nm mu
  refine ⟨fun b u q n _ _ => k b u (hb b n) q, fun b u q n _ _ => ⟨u.slots, k b u (hb b n) q⟩, fun b u q n _ => by rw [upd_ne (hx b n)]; exact n, fun b u q _ => ?_,
    fun b xs q => by rw [upd_ne (hm b _ q fun z => z)]; exact q, fun b u xs q => by rw [upd_ne (hm b _ q fun z => z)]; exact q, fun b ps q => ⟨#[], by rw [upd_ne (hm b _ q fun z => z), q]; simp⟩⟩
  by_cases hbe : b = e
  · subst hbe; exact heo
  · exact ⟨u, k b u hbe q⟩
theorem Un.mono (u : Un fs ex H H1 h h1) (hs : ∀ b ∈ fs, b ∈ fs') (hx : ∀ b ∈ ex, b ∈ ex') : Un fs' ex' H H1 h h1 :=
  ⟨fun b ob q n hb he => u.keep b ob q n (fun z => hb (hs b z)) fun z => he (hx b z), fun _ _ q n _ he => u.any q n fun z => he (hx _ z), fun b ob q n he => u.free b ob q n fun z => he (hx b z), fun b ob q he => u.there b ob q fun z => he (hx b z), u.tups, u.frzs, u.tbls⟩
end

/-! ### the heap without what is tracked -/
def trk (h : Heap) (H : Hp) : List Addr := (List.range h.objs.size).filter fun a => (H a).isSome
def hidT (h : Heap) (H : Hp) : Heap := PySem.W.hideAll h (trk h H)
theorem hidT_size (h : Heap) (H : Hp) : (hidT h H).objs.size = h.objs.size := PySem.W.hideAll_size _ _
theorem hidT_get {h : Heap} {H : Hp} {b : Addr} {o : Obj} (e : h.get? b = some o) (n : H b = none) : (hidT h H).get? b = some o :=
  PySem.W.hideAll_get _ e fun hm => by
    have q : (H b).isSome = true := (List.mem_filter.mp hm).2
    rw [n] at q; simp at q
theorem of_hidT {h : Heap} {H : Hp} {b : Addr} {o : Obj} (e : (hidT h H).get? b = some o) : h.get? b = some o ∧ H b = none := by
  have e' : h.get? b = some o := PySem.W.of_hideAll (trk h H) e
  refine ⟨e', ?_⟩
  cases q : H b with
  | none => rfl
  | some x =>
    have hm : b ∈ trk h H := List.mem_filter.mpr ⟨List.mem_range.mpr (Heap.lt_size e'), by simp [q]⟩
    have z : (hidT h H).get? b = none := PySem.W.hideAll_none (trk h H) hm
    rw [z] at e; cases e

/-! ### OpenK's ledger, filled with every new object but one -/
def allNews (g h : Heap) (L : Addr) : List (Addr × Obj) := (List.range h.objs.size).filterMap fun a => if a = L ∨ (g.get? a).isSome = true then none else (h.get? a).map fun o => (a, o)
theorem mem_allNews {g h : Heap} {L a : Addr} {o : Obj} (h1 : a ≠ L) (h2 : g.get? a = none) (h3 : h.get? a = some o) : (a, o) ∈ allNews g h L :=
  List.mem_filterMap.mpr ⟨a, List.mem_range.mpr (Heap.lt_size h3), by simp [h1, h2, h3]⟩
theorem of_mem_allNews {g h : Heap} {L : Addr} {p : Addr × Obj} (hp : p ∈ allNews g h L) : p.1 ≠ L ∧ g.get? p.1 = none ∧ h.get? p.1 = some p.2 := by
  obtain ⟨b, _, e⟩ := List.mem_filterMap.mp hp
  split at e
  · cases e
  · rename_i hn
    cases q : h.get? b with
    | none => rw [q] at e; simp at e
    | some u =>
      rw [q] at e
      simp only [Option.map_some, Option.some.injEq] at e
      subst e
      refine ⟨fun z => hn (.inl z), ?_, q⟩
      show g.get? b = none
      cases r : g.get? b with
      | none => rfl
      | some v => exact (hn (.inr (by simp [r]))).elim
def rest (g h : Heap) (L d : Addr) : List (Addr × Obj) := (allNews g h L).filter fun p => decide (p.1 ≠ d)
theorem rest_ne {g h : Heap} {L d : Addr} : ∀ p ∈ rest g h L d, p.1 ≠ d := fun p hp => of_decide_eq_true (List.mem_filter.mp hp).2
theorem mem_rest {g h : Heap} {L d a : Addr} {o : Obj} (h1 : a ≠ L) (h2 : g.get? a = none) (h3 : h.get? a = some o) (h4 : a ≠ d) : (a, o) ∈ rest g h L d :=
  List.mem_filter.mpr ⟨mem_allNews h1 h2 h3, decide_eq_true h4⟩
theorem news_all {g h : Heap} {L : Addr} : News g L h (allNews g h L) := fun p hp => let ⟨a, b, c⟩ := of_mem_allNews hp; ⟨c, a, b⟩
theorem news_at {g h : Heap} {L d : Addr} {o : Obj} (h1 : d ≠ L) (h2 : g.get? d = none) (h3 : h.get? d = some o) : News g L h ((d, o) :: rest g h L d) := fun p hp => by
  rcases List.mem_cons.mp hp with rfl | hp
  · exact ⟨h3, h1, h2⟩
  · exact news_all p (List.mem_filter.mp hp).1
/-- behind a rule that changed d alone: all else but the frame is kept -/
theorem kept_of_news {g h h' : Heap} {L d : Addr} {m : Str → Option Value} (k : ∀ b o, g.get? b = some o → h.get? b = some o) (F : Fr g L h' m) (N : News g L h' (rest g h L d)) :
    ∀ b o, b ≠ L → b ≠ d → h.get? b = some o → h'.get? b = some o := fun b o h1 h2 e => by
  cases q : g.get? b with
  | some u =>
    have := k b u q
    rw [e] at this; cases this
    exact F.keep b _ q
  | none => exact (N (b, o) (mem_rest h1 q e h2)).1
end L2

namespace L2
open PySem PySem.Spec PyProof.Rows

/-- the module's facts, over the base: the heap at the law's entry without what is tracked there -/
structure Mod (K : PySem.W.Frag) (mg : Str → Option Value) (base : Heap) : Prop where
  kin : K.In base
  glob : base.Ns mainGlobals mg
  blt : ∃ mb, base.Ns builtinsNs mb ∧ ∀ x : Str, x ≠ "__name__" → mb x = bootBuiltins x
  nolimit : base.NoLimit

/-- the context: a def's body (or a comprehension's block) running. base: fixed through the whole law; s₀, H₀: the entry; outer: the frames whose slots others may change (a def's callers); stack: all frames that run;
   ex: iterators that were made ahead of the entry and are walked here (a comprehension's); fn: the names whose cells were made at the entry (a def: all; a comprehension's block: its own); calm: not within an except suite; pn: pins that every state bears; xe: what is wanted of an exception that leaves the code -/
structure Cx where
  prog : Program
  w : World
  K : PySem.W.Frag
  mg : Str → Option Value
  base : Heap
  A : Around
  N : List Str
  s₀ : Shared
  H₀ : Hp
  env : Env
  outer : List Env
  stack : List Env
  ex : List Addr
  fn : Str → Bool
  calm : Bool
  pn : List (Addr × Obj)
  xe : Value → Shared → Prop
/-- the callers' frames -/
def frs (l : List Env) : List Addr := l.filterMap (·.frame)
abbrev Cx.fs (X : Cx) : List Addr := frs X.outer

def Vis (sc : Scope) (x : Str) : Prop := sc.names.lookup x = some .local ∨ sc.names.lookup x = some .cell ∨ sc.names.lookup x = some .free
def Loc (sc : Scope) (x : Str) : Prop := sc.names.lookup x = some .local ∨ sc.names.lookup x = some .cell
def Look (env : Env) (h : Heap) (m : Str → Option Value) (x : Str) (u : Value) : Prop :=
  (env.kindOf x = some .local ∧ m x = some u) ∨ ((env.kindOf x = some .cell ∨ env.kindOf x = some .free) ∧ ∃ c, env.cells.lookup x = some c ∧ h.IsCell c (some u))

structure Cx.Ok (X : Cx) : Prop where
  mod : Mod X.K X.mg X.base
  kind : X.env.scope.kind = .function
  glob : X.env.globals = mainGlobals
  blt : X.env.builtins = builtinsNs
  above : X.s₀.heap.objs.size ≤ X.env.locals
  inj : ∀ x y c, X.env.cells.lookup x = some c → X.env.cells.lookup y = some c → x = y
  has : ∀ x, (X.env.kindOf x = some .cell ∨ X.env.kindOf x = some .free) → ∃ c, X.env.cells.lookup x = some c
  cab : ∀ x c, X.fn x = true → X.env.cells.lookup x = some c → X.s₀.heap.objs.size ≤ c
  hd : X.calm = true → X.A.handled = none
  frames : X.A.frames = some X.stack
  stk : X.stack = X.outer ∨ (X.stack = X.env :: X.outer ∧ X.env.frame = some X.env.locals)
  exf : ∀ b ∈ X.ex, b ≠ X.env.locals ∧ ∀ x c, X.env.cells.lookup x = some c → c ≠ b
  bs : ∀ b o, X.base.get? b = some o → X.s₀.heap.get? b = some o ∧ X.H₀ b = none
  bsz : X.base.objs.size ≤ X.s₀.heap.objs.size
  noex : ∀ b o, X.base.get? b = some o → b ∉ X.ex
  exfs : ∀ b ∈ X.ex, b ∉ X.fs
  funs : X.s₀.heap.FunFrames X.base X.outer
  frf : ∀ b ∈ X.fs, X.H₀ b = none

structure Inv (X : Cx) (pins : List (Addr × Obj)) (σ : List (Option V)) (H : Hp) (s : Shared) : Prop where
  ok : X.Ok
  os : s.os = X.s₀.os
  bare : AllBare s.gens
  base : Un X.fs X.ex X.H₀ H X.s₀.heap s.heap
  loc : ∃ m, s.heap.Ns X.env.locals m ∧ ∀ (i : Nat) (x : Str) (v : V), X.N[i]? = some x → σ[i]? = some (some v) → Vis X.env.scope x → ∃ u, RelV v u ∧ Look X.env s.heap m x u
  cell : ∀ x c, X.env.cells.lookup x = some c → ∃ v, s.heap.IsCell c v
  free : H X.env.locals = none
  freeC : ∀ x c, X.env.cells.lookup x = some c → H c = none
  pin : ∀ p ∈ X.pn ++ pins, s.heap.get? p.1 = some p.2 ∧ H p.1 = none ∧ p.1 ≠ X.env.locals ∧ p.1 ∉ X.fs ∧ ∀ v, p.2.data ≠ .cell v
  hok : HOk X.prog X.w H s.heap
  len : σ.length = X.N.length

section
variable {X : Cx} {pins : List (Addr × Obj)} {σ : List (Option V)} {H H' : Hp} {s : Shared} {h' : Heap}

theorem Cx.Ok.nofr (ok : X.Ok) {b : Addr} {o : Obj} (e : X.base.get? b = some o) : b ∉ X.fs := fun hb => by
  have := (ok.funs.mem hb).1
  rw [e] at this; cases this
theorem Inv.bs (I : Inv X pins σ H s) : ∀ b o, X.base.get? b = some o → s.heap.get? b = some o ∧ H b = none := fun b o e =>
  ⟨I.base.keep b o (I.ok.bs b o e).1 (I.ok.bs b o e).2 (I.ok.nofr e) (I.ok.noex b o e), I.base.free b o (I.ok.bs b o e).1 (I.ok.bs b o e).2 (I.ok.noex b o e)⟩
theorem Inv.bk (I : Inv X pins σ H s) : ∀ b o, X.base.get? b = some o → s.heap.get? b = some o := fun b o e => (I.bs b o e).1
theorem Inv.mod (I : Inv X pins σ H s) : Mod X.K X.mg X.base := I.ok.mod
theorem Inv.kIn (I : Inv X pins σ H s) : X.K.In s.heap := I.ok.mod.kin.keeps I.bk
theorem Inv.nolimit (I : Inv X pins σ H s) : s.heap.NoLimit := I.ok.mod.nolimit.keeps I.bk
/-- the frame over the base: for OpenK's rules (K.In X.base is I.mod.kin) -/
theorem Inv.fr (I : Inv X pins σ H s) : ∃ m, Fr X.base X.env.locals s.heap m :=
  let ⟨m, hn, _⟩ := I.loc
  ⟨m, hn, I.bk, Nat.le_trans I.ok.bsz I.ok.above⟩
theorem Inv.lt (I : Inv X pins σ H s) : X.env.locals < s.heap.objs.size := let ⟨_, hn, _⟩ := I.loc; hn.lt
theorem Inv.sz (I : Inv X pins σ H s) : X.s₀.heap.objs.size ≤ s.heap.objs.size := Nat.le_trans I.ok.above (Nat.le_of_lt I.lt)
theorem Inv.nofs (I : Inv X pins σ H s) {a : Addr} (h : s.heap.objs.size ≤ a) : a ∉ X.fs := fun hb => by
  obtain ⟨_, o, ho, _⟩ := I.ok.funs.mem hb
  exact absurd (Nat.lt_of_lt_of_le (Heap.lt_size ho) (Nat.le_trans I.sz h)) (Nat.lt_irrefl _)
theorem Inv.cne (I : Inv X pins σ H s) : ∀ x c, X.env.cells.lookup x = some c → c ≠ X.env.locals := fun x c e z => by
  obtain ⟨v, o, ho, hd⟩ := I.cell x c e
  obtain ⟨m, ⟨o', es, ep, ho', hd', _⟩, _⟩ := I.loc
  rw [z, ho'] at ho; cases ho; rw [hd'] at hd; cases hd
theorem Inv.funs (I : Inv X pins σ H s) : s.heap.FunFrames X.base X.outer := by
  have all : ∀ (l : List Env), (∀ b ∈ frs l, b ∈ X.fs) → X.s₀.heap.FunFrames X.base l → s.heap.FunFrames X.base l := by
    intro l
    induction l with
    | nil => intro _ _; trivial
    | cons env r ih =>
      intro hs hl
      obtain ⟨hk, ⟨L, o, hf, hn, ho, hd⟩, hr⟩ := hl
      have hL : L ∈ X.fs := hs L (by unfold frs; rw [List.filterMap_cons, hf]; exact List.mem_cons_self)
      obtain ⟨sl, e⟩ := I.base.slot L o ho (I.ok.frf L hL) hL fun z => I.ok.exfs L z hL
      exact ⟨hk, ⟨L, _, hf, hn, e, hd⟩, ih (fun b hb => hs b (by unfold frs; rw [List.filterMap_cons, hf]; exact List.mem_cons_of_mem _ hb)) hr⟩
  exact all X.outer (fun _ hb => hb) I.ok.funs

/-- the frames that run, for a call -/
theorem Inv.stack (I : Inv X pins σ H s) : s.heap.FunFrames X.base X.stack := by
  rcases I.ok.stk with e | ⟨e, hf⟩
  · rw [e]; exact I.funs
  · rw [e]
    obtain ⟨m, hn, _⟩ := I.loc
    refine .cons (by rw [I.ok.kind]; decide) hf hn ?_ I.funs
    exact Heap.get?_none_of_le (Nat.le_trans I.ok.bsz I.ok.above)
theorem Inv.stkSub (I : Inv X pins σ H s) : ∀ b ∈ frs X.stack, b ∈ X.env.locals :: X.fs := fun b hb => by
  rcases I.ok.stk with e | ⟨e, hf⟩
  · rw [e] at hb; exact List.mem_cons_of_mem _ hb
  · rw [e] at hb
    unfold frs at hb
    rw [List.filterMap_cons, hf] at hb
    exact hb
theorem Inv.stkFree (I : Inv X pins σ H s) : ∀ b ∈ frs X.stack, H b = none := fun b hb => by
  rcases List.mem_cons.mp (I.stkSub b hb) with e | hb
  · rw [e]; exact I.free
  · obtain ⟨_, o, ho, _⟩ := I.ok.funs.mem hb
    exact I.base.free b o ho (I.ok.frf b hb) fun z => I.ok.exfs b z hb

/-- THE STEP: the untracked objects but the frame and the records at ch are kept (the callers' frames up to slots), the frame's map is kept, the new abstract heap is held -/
theorem Inv.step {g' : Array GenState} {t' : Nat} {d' : Drawn} {ch : List Addr} (I : Inv X pins σ H s)
    (hch : ∀ b ∈ ch, (b ∈ X.ex ∨ X.s₀.heap.objs.size ≤ b) ∧ b ≠ X.env.locals ∧ (∀ x c, X.env.cells.lookup x = some c → c ≠ b) ∧ ∀ p ∈ X.pn ++ pins, p.1 ≠ b)
    (keep : ∀ b o, b ≠ X.env.locals → b ∉ X.fs → b ∉ ch → s.heap.get? b = some o → H b = none → h'.get? b = some o)
    (slot : ∀ b o, b ≠ X.env.locals → b ∈ X.fs → b ∉ ch → s.heap.get? b = some o → H b = none → ∃ sl, h'.get? b = some { o with slots := sl }) (free : ∀ b o, b ∉ ch → s.heap.get? b = some o → H b = none → H' b = none)
    (there : ∀ b o, b ∉ ch → s.heap.get? b = some o → ∃ o', h'.get? b = some o')
    (tups : ∀ b xs, H b = some (.tup xs) → H' b = some (.tup xs)) (frzs : ∀ b o u, H b = some (.frz o u) → H' b = some (.frz o u)) (tbls : ∀ b ps, H b = some (.tbl ps) → ∃ more, H' b = some (.tbl (ps ++ more)))
    (ns : ∀ m, s.heap.Ns X.env.locals m → h'.Ns X.env.locals m) (hok : HOk X.prog X.w H' h') (hg : AllBare g') :
    Inv X pins σ H' { s with heap := h', gens := g', drawn := d', toks := t' } := by
  have neL : ∀ b o, X.s₀.heap.get? b = some o → b ≠ X.env.locals := fun b o e => Nat.ne_of_lt (Nat.lt_of_lt_of_le (Heap.lt_size e) I.ok.above)
  have neC : ∀ b o, X.s₀.heap.get? b = some o → b ∉ X.ex → b ∉ ch := fun b o e hx hb => by
    rcases (hch b hb).1 with z | z
    · exact hx z
    · exact absurd (Nat.lt_of_lt_of_le (Heap.lt_size e) z) (Nat.lt_irrefl _)
  have cellK : ∀ x c, X.env.cells.lookup x = some c → ∀ v, s.heap.IsCell c v → h'.IsCell c v := fun x c e v ⟨o, ho, hd⟩ => by
    have nch : c ∉ ch := fun z => (hch c z).2.2.1 x c e rfl
    by_cases hc : c ∈ X.fs
    · obtain ⟨sl, q⟩ := slot c o (I.cne x c e) hc nch ho (I.freeC x c e)
      exact ⟨_, q, hd⟩
    · exact ⟨o, keep c o (I.cne x c e) hc nch ho (I.freeC x c e), hd⟩
  refine ⟨I.ok, I.os, hg, ⟨fun b o e n hb hx => ?_, fun b o e n hb hx => ?_, fun b o e n hx => ?_, fun b o e hx => ?_, fun b xs e => tups b xs (I.base.tups b xs e), fun b o xs e => frzs b o xs (I.base.frzs b o xs e), fun b ps e => ?_⟩, ?_, fun x c e => ?_, ?_, fun x c e => ?_, fun p hp => ?_, hok, I.len⟩
  · exact keep b o (neL b o e) hb (neC b o e hx) (I.base.keep b o e n hb hx) (I.base.free b o e n hx)
  · obtain ⟨sl, e1⟩ := I.base.slot b o e n hb hx
    obtain ⟨sl', e2⟩ := slot b _ (neL b o e) hb (neC b o e hx) e1 (I.base.free b o e n hx)
    exact ⟨sl', e2⟩
  · obtain ⟨o', e1⟩ := I.base.there b o e hx
    exact free b o' (neC b o e hx) e1 (I.base.free b o e n hx)
  · obtain ⟨o', e1⟩ := I.base.there b o e hx
    exact there b o' (neC b o e hx) e1
  · obtain ⟨m1, e1⟩ := I.base.tbls b ps e
    obtain ⟨m2, e2⟩ := tbls b _ e1
    exact ⟨m1 ++ m2, by rw [e2, Array.append_assoc]⟩
  · obtain ⟨m, hn, hl⟩ := I.loc
    refine ⟨m, ns m hn, fun i x v e1 e2 e3 => ?_⟩
    obtain ⟨u, r, l⟩ := hl i x v e1 e2 e3
    refine ⟨u, r, ?_⟩
    rcases l with l | ⟨k, c, e, z⟩
    · exact .inl l
    · exact .inr ⟨k, c, e, cellK x c e _ z⟩
  · obtain ⟨v, z⟩ := I.cell x c e
    exact ⟨v, cellK x c e v z⟩
  · obtain ⟨m, ⟨o, _, _, ho, _⟩, _⟩ := I.loc
    exact free _ o (fun z => (hch _ z).2.1 rfl) ho I.free
  · obtain ⟨v, o, ho, hd⟩ := I.cell x c e
    exact free c o (fun z => (hch c z).2.2.1 x c e rfl) ho (I.freeC x c e)
  · obtain ⟨e, n, ne, nf, d⟩ := I.pin p hp
    have nch : p.1 ∉ ch := fun z => (hch p.1 z).2.2.2 p hp rfl
    exact ⟨keep p.1 p.2 ne nf nch e n, free p.1 p.2 nch e n, ne, nf, d⟩
/-- .. where the frame's own object is kept too -/
theorem Inv.un {t' : Nat} (I : Inv X pins σ H s) (u : Un X.fs [] H H' s.heap h') (hok : HOk X.prog X.w H' h') : Inv X pins σ H' { s with heap := h', toks := t' } := by
  obtain ⟨m, ⟨o, es, ep, ho, r⟩, _⟩ := id I.loc
  obtain ⟨sl, hL⟩ := u.any ho I.free (by simp)
  exact I.step (g' := s.gens) (d' := s.drawn) (ch := []) (fun _ z => nomatch z) (fun b o _ hb _ e n => u.keep b o e n hb (by simp)) (fun b o _ hb _ e n => u.slot b o e n hb (by simp)) (fun b o _ e n => u.free b o e n (by simp)) (fun b o _ e => u.there b o e (by simp)) u.tups u.frzs u.tbls (fun m' hm => by
    obtain ⟨o', es', ep', ho', r'⟩ := hm
    rw [ho] at ho'; cases ho'
    exact ⟨_, es', ep', hL, r'⟩) hok I.bare
/-- behind a call (or a comprehension's block): the slots of this frame may have changed too, the records at ch may have turned -/
theorem Inv.call {g' : Array GenState} {t' : Nat} {d' : Drawn} {ch : List Addr} (I : Inv X pins σ H s) (u : Un (frs X.stack) ch H H' s.heap h') (hok : HOk X.prog X.w H' h') (hg : AllBare g')
    (hch : ∀ b ∈ ch, (b ∈ X.ex ∨ X.s₀.heap.objs.size ≤ b) ∧ b ≠ X.env.locals ∧ (∀ x c, X.env.cells.lookup x = some c → c ≠ b) ∧ ∀ p ∈ X.pn ++ pins, p.1 ≠ b) :
    Inv X pins σ H' { s with heap := h', gens := g', drawn := d', toks := t' } := by
  obtain ⟨m, ⟨o, es, ep, ho, r⟩, _⟩ := id I.loc
  obtain ⟨sl, hL⟩ := u.any ho I.free fun z => (hch _ z).2.1 rfl
  exact I.step (ch := ch) hch (fun b o hL hb hc e n => u.keep b o e n (fun z => (List.mem_cons.mp (I.stkSub b z)).elim hL hb) hc) (fun b o _ _ hc e n => u.any e n hc) (fun b o hc e n => u.free b o e n hc) (fun b o hc e => u.there b o e hc) u.tups u.frzs u.tbls (fun m' hm => by
    obtain ⟨o', es', ep', ho', r'⟩ := hm
    rw [ho] at ho'; cases ho'
    exact ⟨_, es', ep', hL, r'⟩) hok hg
/-- an untracked record of ours (an iterator) has turned -/
theorem Inv.turned {t' : Nat} {it : Addr} (I : Inv X pins σ H s) (k : ∀ b o, b ≠ it → s.heap.get? b = some o → h'.get? b = some o) (hn : H it = none) (hL : it ≠ X.env.locals)
    (h1 : it ∈ X.ex ∨ X.s₀.heap.objs.size ≤ it) (h2 : ∀ x c, X.env.cells.lookup x = some c → c ≠ it) (h3 : ∀ p ∈ X.pn ++ pins, p.1 ≠ it) : Inv X pins σ H { s with heap := h', toks := t' } := by
  have nit : ∀ b u, H b = some u → b ≠ it := fun b u e z => by rw [z, hn] at e; cases e
  refine I.step (g' := s.gens) (d' := s.drawn) (ch := [it]) (fun b hb => ?_) (fun b o _ _ hc e _ => k b o (fun z => hc (by simp [z])) e) (fun b o _ _ hc e _ => ⟨o.slots, k b o (fun z => hc (by simp [z])) e⟩) (fun _ _ _ _ n => n)
    (fun b o hc e => ⟨o, k b o (fun z => hc (by simp [z])) e⟩) (fun _ _ e => e) (fun _ _ _ e => e) (fun b ps e => ⟨#[], by rw [e]; simp⟩) (fun m hm => ?_) (fun b u e => ?_) I.bare
  · have e : b = it := by simpa using hb
    subst e
    exact ⟨h1, hL, h2, h3⟩
  · obtain ⟨o, es, ep, ho, r⟩ := hm
    exact ⟨o, es, ep, k _ o (Ne.symm hL) ho, r⟩
  · refine (I.hok b u e).stay (fun c v hc q => k c v ?_ q) (fun _ q => q) fun _ _ q => q
    rcases hc with z | z
    · rw [z]; exact nit b u e
    · exact nit c _ z
theorem Inv.tok (I : Inv X pins σ H s) (t : Nat) : Inv X pins σ H { s with toks := t } := I.un (h' := s.heap) (t' := t) Un.refl I.hok
/-- all objects kept -/
theorem Inv.kept {t' : Nat} (I : Inv X pins σ H s) (k : ∀ b u, s.heap.get? b = some u → h'.get? b = some u) : Inv X pins σ H { s with heap := h', toks := t' } := I.un (Un.kept k) (I.hok.kept k)
/-- a new object laid and tracked -/
theorem Inv.laid {a : Addr} {o : HO} {t' : Nat} (I : Inv X pins σ H s) (k : ∀ b u, s.heap.get? b = some u → h'.get? b = some u) (hp : s.heap.objs.size ≤ a) (new : ObjOk X.prog X.w (upd H a o) h' a o) :
    Inv X pins σ (upd H a o) { s with heap := h', toks := t' } := I.un (Un.laid k hp (I.hok.fresh hp)) (I.hok.laid k hp new)
/-- an object written -/
theorem Inv.write {x e : Addr} {o : HO} {t' : Nat} (I : Inv X pins σ H s) (mu : Mut (H x)) (he : e = x ∨ H e = some (.own x)) (k : ∀ b u, b ≠ e → s.heap.get? b = some u → h'.get? b = some u) (heo : ∃ u, h'.get? e = some u)
    (new : ObjOk X.prog X.w (upd H x o) h' x o) : Inv X pins σ (upd H x o) { s with heap := h', toks := t' } := I.un (Un.write mu he k heo) (I.hok.write mu he k heo new)
/-- forgetting slots, pins -/
theorem Inv.weak {σ' : List (Option V)} (I : Inv X pins σ H s) (hl : σ'.length = σ.length) (w : ∀ (i : Nat) v, σ'[i]? = some (some v) → σ[i]? = some (some v)) : Inv X pins σ' H s :=
  ⟨I.ok, I.os, I.bare, I.base, let ⟨m, hn, hl'⟩ := I.loc; ⟨m, hn, fun i x v e1 e2 e3 => hl' i x v e1 (w i v e2) e3⟩, I.cell, I.free, I.freeC, I.pin, I.hok, hl.trans I.len⟩
theorem Inv.pins_of {pins' : List (Addr × Obj)} (I : Inv X pins σ H s) (h : ∀ p ∈ pins', s.heap.get? p.1 = some p.2 ∧ H p.1 = none ∧ p.1 ≠ X.env.locals ∧ p.1 ∉ X.fs ∧ ∀ v, p.2.data ≠ .cell v) : Inv X pins' σ H s :=
  ⟨I.ok, I.os, I.bare, I.base, I.loc, I.cell, I.free, I.freeC, fun p hp => (List.mem_append.mp hp).elim (fun z => I.pin p (List.mem_append_left _ z)) (h p), I.hok, I.len⟩

theorem nodup_ix {N : List Str} (hN : N.Nodup) {i j : Nat} {x : Str} (a : N[i]? = some x) (b : N[j]? = some x) : i = j := by
  obtain ⟨h1, e1⟩ := List.getElem?_eq_some_iff.mp a
  obtain ⟨h2, e2⟩ := List.getElem?_eq_some_iff.mp b
  exact (List.getElem_inj hN).mp (e1.trans e2.symm)

/-- a name is stored; what changed -/
theorem store_ok2 {M : Model} {A : Around} {E : Value → Shared → Prop} {i : Nat} {x : Str} {v : V} {u : Value} {Q : Unit → Shared → Prop} (I : Inv X pins σ H s) (hN : X.N.Nodup) (hi : X.N[i]? = some x) (hx : Loc X.env.scope x) (r : RelV v u)
    (h : ∀ s', Inv X pins (σ.set i (some v)) H s' → (∃ a, Heap.SameBut a s.heap s'.heap ∧ (a = X.env.locals ∨ X.env.cells.lookup x = some a)) → Q () s') (hf : X.fn x = true ∨ X.env.scope.names.lookup x = some .local := by first | exact .inl rfl | exact .inr rfl | assumption) : wpAny M A (storeName X.env x u) Q E s := by
  obtain ⟨m, hn, hl⟩ := id I.loc
  have hcls : (X.env.scope.kind == .class || (X.env.scope.kind == .module && X.env.locals != X.env.globals)) = false := by rw [I.ok.kind]; rfl
  have hiσ : i < σ.length := by rw [I.len]; exact (List.getElem?_eq_some_iff.mp hi).1
  have cne := I.cne
  have tracked : ∀ {a : Addr} {h' : Heap}, (∃ o, s.heap.get? a = some o ∧ H a = none) → Heap.SameBut a s.heap h' → HOk X.prog X.w H h' := fun {a h'} ha hs b ob e => by
    obtain ⟨_, _, hfree⟩ := ha
    refine (I.hok b ob e).stay (fun c w' hc q => (hs.2 c ?_).trans q) (fun _ q => q) fun _ _ q => q
    rintro rfl
    rcases hc with rfl | hc
    · rw [hfree] at e; cases e
    · rw [hfree] at hc; cases hc
  rcases hx with hk | hk
  · refine wpAny_storeName_local hk hn (fun h' hn' hs => ?_) hcls
    obtain ⟨oL, _, _, hoL, _⟩ := id hn
    refine h _ ⟨I.ok, I.os, I.bare, ⟨fun b o e n hb hx => ?_, fun b o e n hb hx => ?_, I.base.free, fun b o e hx => ?_, I.base.tups, I.base.frzs, I.base.tbls⟩, ⟨_, hn', fun j y v' e1 e2 e3 => ?_⟩, fun y c e => ?_, I.free, I.freeC, fun p hp => ?_, tracked ⟨oL, hoL, I.free⟩ hs, by simpa using I.len⟩ ⟨_, hs, .inl rfl⟩
    · exact (hs.2 b (Nat.ne_of_lt (Nat.lt_of_lt_of_le (Heap.lt_size e) I.ok.above))).trans (I.base.keep b o e n hb hx)
    · obtain ⟨sl, e1⟩ := I.base.slot b o e n hb hx
      exact ⟨sl, (hs.2 b (Nat.ne_of_lt (Nat.lt_of_lt_of_le (Heap.lt_size e) I.ok.above))).trans e1⟩
    · obtain ⟨o', e1⟩ := I.base.there b o e hx
      exact ⟨o', (hs.2 b (Nat.ne_of_lt (Nat.lt_of_lt_of_le (Heap.lt_size e) I.ok.above))).trans e1⟩
    · by_cases hj : j = i
      · subst hj
        rw [hi] at e1; cases e1
        rw [List.getElem?_set_self hiσ] at e2
        cases e2
        exact ⟨u, r, .inl ⟨hk, by simp⟩⟩
      · rw [List.getElem?_set_ne (Ne.symm hj)] at e2
        obtain ⟨u', r', q⟩ := hl j y v' e1 e2 e3
        refine ⟨u', r', ?_⟩
        rcases q with ⟨k, e⟩ | ⟨k, c, e, z⟩
        · refine .inl ⟨k, ?_⟩
          have : y ≠ x := fun e => hj (nodup_ix hN e1 (e ▸ hi))
          simp [this, e]
        · exact .inr ⟨k, c, e, z.sameBut hs (cne y c e)⟩
    · obtain ⟨w', z⟩ := I.cell y c e
      exact ⟨w', z.sameBut hs (cne y c e)⟩
    · obtain ⟨e, n, ne, nf, d⟩ := I.pin p hp
      exact ⟨(hs.2 p.1 ne).trans e, n, ne, nf, d⟩
  · have hfn : X.fn x = true := by
      rcases hf with z | z
      · exact z
      · rw [z] at hk; cases hk
    obtain ⟨c, hc⟩ := I.ok.has x (.inl hk)
    obtain ⟨w', z⟩ := I.cell x c hc
    refine wpAny_storeName_cell I.ok.kind hk hc z (fun h' hc' hs => ?_)
    obtain ⟨oc, hoc, hocd⟩ := id z
    refine h { s with heap := h' } ⟨I.ok, I.os, I.bare, ⟨fun b o e n hb hx => ?_, fun b o e n hb hx => ?_, I.base.free, fun b o e hx => ?_, I.base.tups, I.base.frzs, I.base.tbls⟩, ⟨m, hn.sameBut hs (Ne.symm (cne x c hc)), fun j y v' e1 e2 e3 => ?_⟩, fun y c' e => ?_, I.free, I.freeC, fun p hp => ?_, tracked ⟨oc, hoc, I.freeC x c hc⟩ hs, by simpa using I.len⟩ ⟨c, hs, .inr hc⟩
    · exact (hs.2 b (Nat.ne_of_lt (Nat.lt_of_lt_of_le (Heap.lt_size e) (I.ok.cab x c hfn hc)))).trans (I.base.keep b o e n hb hx)
    · obtain ⟨sl, e1⟩ := I.base.slot b o e n hb hx
      exact ⟨sl, (hs.2 b (Nat.ne_of_lt (Nat.lt_of_lt_of_le (Heap.lt_size e) (I.ok.cab x c hfn hc)))).trans e1⟩
    · obtain ⟨o', e1⟩ := I.base.there b o e hx
      exact ⟨o', (hs.2 b (Nat.ne_of_lt (Nat.lt_of_lt_of_le (Heap.lt_size e) (I.ok.cab x c hfn hc)))).trans e1⟩
    · by_cases hj : j = i
      · subst hj
        rw [hi] at e1; cases e1
        rw [List.getElem?_set_self hiσ] at e2
        cases e2
        exact ⟨u, r, .inr ⟨.inl hk, c, hc, hc'⟩⟩
      · rw [List.getElem?_set_ne (Ne.symm hj)] at e2
        obtain ⟨u', r', q⟩ := hl j y v' e1 e2 e3
        refine ⟨u', r', ?_⟩
        rcases q with q | ⟨k, c', e, z'⟩
        · exact .inl q
        · refine .inr ⟨k, c', e, z'.sameBut hs ?_⟩
          rintro rfl
          exact hj (nodup_ix hN e1 (I.ok.inj _ _ _ e hc ▸ hi))
    · by_cases hcc : c' = c
      · subst hcc; exact ⟨_, hc'⟩
      · obtain ⟨w2, z2⟩ := I.cell y c' e
        exact ⟨w2, z2.sameBut hs hcc⟩
    · obtain ⟨e, n, ne, nf, d⟩ := I.pin p hp
      refine ⟨(hs.2 p.1 ?_).trans e, n, ne, nf, d⟩
      intro q
      rw [q, hoc] at e
      have q' : oc = p.2 := Option.some.inj e
      exact d w' (by rw [← q']; exact hocd)
theorem store_ok {M : Model} {A : Around} {E : Value → Shared → Prop} {i : Nat} {x : Str} {v : V} {u : Value} {Q : Unit → Shared → Prop} (I : Inv X pins σ H s) (hN : X.N.Nodup) (hi : X.N[i]? = some x) (hx : Loc X.env.scope x) (r : RelV v u)
    (h : ∀ s', Inv X pins (σ.set i (some v)) H s' → Q () s') (hf : X.fn x = true ∨ X.env.scope.names.lookup x = some .local := by first | exact .inl rfl | exact .inr rfl | assumption) : wpAny M A (storeName X.env x u) Q E s :=
  store_ok2 I hN hi hx r (fun s' I' _ => h s' I') hf
/-- behind a call or a block, the state as it is -/
theorem Inv.call' {s' : Shared} {ch : List Addr} (I : Inv X pins σ H s) (ho : s'.os = s.os) (u : Un (frs X.stack) ch H H' s.heap s'.heap) (hok : HOk X.prog X.w H' s'.heap) (hg : AllBare s'.gens)
    (hch : ∀ b ∈ ch, (b ∈ X.ex ∨ X.s₀.heap.objs.size ≤ b) ∧ b ≠ X.env.locals ∧ (∀ x c, X.env.cells.lookup x = some c → c ≠ b) ∧ ∀ p ∈ X.pn ++ pins, p.1 ≠ b) : Inv X pins σ H' s' := by
  obtain ⟨h', g', d', t', o'⟩ := s'
  have e : o' = s.os := ho
  subst e
  exact I.call (g' := g') (t' := t') (d' := d') u hok hg hch
end

/-! ### the judgements -/
/-- an exception: its class, its own dict's address (where it has one), the abstract heap behind it -/
abbrev XK := Value → Option Addr → Hp → Prop
abbrev St := List (Option V)
abbrev VK := V → Hp → Prop
/-- an expression's reading; a test's; an argument list's -/
abbrev TE := St → Hp → VK → Prop
abbrev TT := St → Hp → (Bool → Hp → Prop) → Prop
abbrev TA := St → Hp → (List V → Hp → Prop) → Prop
/-- what is wanted behind a statement -/
structure Ends where
  nx : St → Hp → Prop
  rt : VK
  bk : St → Hp → Prop := fun _ _ => False
  ct : St → Hp → Prop := fun _ _ => False
abbrev TS := Ends → St → Hp → Prop

def EP (X : Cx) (pins : List (Addr × Obj)) (σ : St) (Q : VK) (u : Value) (s' : Shared) : Prop := ∃ v H', Inv X pins σ H' s' ∧ RelV v u ∧ Q v H'
def TP (X : Cx) (pins : List (Addr × Obj)) (σ : St) (Q : Bool → Hp → Prop) (b : Bool) (s' : Shared) : Prop := ∃ H', Inv X pins σ H' s' ∧ Q b H'
def AP (X : Cx) (pins : List (Addr × Obj)) (σ : St) (Q : List V → Hp → Prop) (us : List Value) (s' : Shared) : Prop := ∃ vs H', Inv X pins σ H' s' ∧ Vals vs us ∧ Q vs H'
def SP (X : Cx) (pins : List (Addr × Obj)) (D : Ends) (f : Flow) (s' : Shared) : Prop :=
  match f with
  | .next => ∃ σ' H', Inv X pins σ' H' s' ∧ D.nx σ' H'
  | .brk => ∃ σ' H', Inv X pins σ' H' s' ∧ D.bk σ' H'
  | .cont => ∃ σ' H', Inv X pins σ' H' s' ∧ D.ct σ' H'
  | .ret u => ∃ v σ' H', Inv X pins σ' H' s' ∧ RelV v u ∧ D.rt v H'

def PE (X : Cx) (e : Expr) (t : TE) : Prop :=
  ∀ (pins : List (Addr × Obj)) (s : Shared) (σ : St) (H : Hp) (Q : VK), Inv X pins σ H s → t σ H Q → wpAny (model X.prog X.w) X.A (eval e X.env) (EP X pins σ Q) X.xe s
def PT (X : Cx) (e : Expr) (t : TT) : Prop :=
  ∀ (pins : List (Addr × Obj)) (s : Shared) (σ : St) (H : Hp) (Q : Bool → Hp → Prop), Inv X pins σ H s → t σ H Q → wpAny (model X.prog X.w) X.A (isTrue e X.env (eval e X.env)) (TP X pins σ Q) X.xe s
/-- a test whatever its 'whole' is (and, or) -/
def PW (X : Cx) (e : Expr) (t : TT) : Prop :=
  ∀ (whole : Sem Value) (pins : List (Addr × Obj)) (s : Shared) (σ : St) (H : Hp) (Q : Bool → Hp → Prop), Inv X pins σ H s → t σ H Q → wpAny (model X.prog X.w) X.A (isTrue e X.env whole) (TP X pins σ Q) X.xe s
theorem PW.pt {X : Cx} {e : Expr} {t : TT} (h : PW X e t) : PT X e t := h _
/-- an argument list (no star), from the left -/
def PA (X : Cx) (es : List Expr) (t : TA) : Prop :=
  ∀ (pos : Pos) (pins : List (Addr × Obj)) (s : Shared) (σ : St) (H : Hp) (Q : List V → Hp → Prop), Inv X pins σ H s → t σ H Q → wpAny (model X.prog X.w) X.A (spliced (backTo pos (starEach es X.env))) (AP X pins σ Q) X.xe s
def PS (X : Cx) (st : Stmt) (t : TS) : Prop :=
  ∀ (pins : List (Addr × Obj)) (s : Shared) (σ : St) (H : Hp) (D : Ends), Inv X pins σ H s → t D σ H → wpAny (model X.prog X.w) X.A (exec st X.env) (SP X pins D) X.xe s
def PSs (X : Cx) (st : List Stmt) (t : TS) : Prop :=
  ∀ (pins : List (Addr × Obj)) (s : Shared) (σ : St) (H : Hp) (D : Ends), Inv X pins σ H s → t D σ H → wpAny (model X.prog X.w) X.A (execs st X.env) (SP X pins D) X.xe s
/-- weaken the end -/
theorem thn {α : Type} {t : Sem α} {Q Q' : α → Shared → Prop} {M : Model} {A : Around} {E : Value → Shared → Prop} {s : Shared} (h : wpAny M A t Q E s) (hQ : ∀ a s, Q a s → Q' a s) : wpAny M A t Q' E s := wpAny_mono h hQ fun _ _ x => x
end L2

namespace L2
open PySem PySem.Spec PyProof.Rows
section
variable {X : Cx}

/-- two expressions in a row -/
theorem bin {a b : Expr} {ta tb : TE} (ha : PE X a ta) (hb : PE X b tb) {pins : List (Addr × Obj)} {s : Shared} {σ : St} {H : Hp} {R : V → V → Hp → Prop} (I : Inv X pins σ H s) (h : ta σ H fun x H1 => tb σ H1 fun y H2 => R x y H2)
    {α : Type} {Q : α → Shared → Prop} {f : Value → Value → Sem α}
    (hf : ∀ v u s2 x y H2, Inv X pins σ H2 s2 → RelV x v → RelV y u → R x y H2 → wpAny (model X.prog X.w) X.A (f v u) Q X.xe s2) :
    wpAny (model X.prog X.w) X.A (eval a X.env) (fun v s₁ => wpAny (model X.prog X.w) X.A (eval b X.env) (fun u s₂ => wpAny (model X.prog X.w) X.A (f v u) Q X.xe s₂) X.xe s₁) X.xe s := by
  refine thn (ha pins s σ H _ I h) fun v s1 ⟨x, H1, I1, r1, q1⟩ => ?_
  refine thn (hb pins s1 σ H1 _ I1 q1) fun u s2 ⟨y, H2, I2, r2, q2⟩ => ?_
  exact hf v u s2 x y H2 I2 r1 r2 q2

/-! ### names and constants -/
def tVar (i : Nat) : TE := fun σ H Q => ∃ v, σ[i]? = some (some v) ∧ Q v H
def tC (v : V) : TE := fun _ H Q => Q v H
theorem pe_var {i : Nat} {x : Str} {pos : Pos} (hN : X.N[i]? = some x) (hv : Vis X.env.scope x) (hd : (x == ("__debug__" : Str)) = false := by decide) (hcd : (x == ("__classdict__" : Str)) = false := by decide) : PE X (.Name x pos) (tVar i) := by
  intro pins s σ H Q I h
  obtain ⟨v, e, h⟩ := h
  obtain ⟨m, hn, hl⟩ := I.loc
  obtain ⟨u, r, l⟩ := hl i x v hN e hv
  have fin : EP X pins σ Q u s := ⟨v, H, I, r, h⟩
  rcases l with ⟨hk, hm⟩ | ⟨hk, c, hc, hcell⟩
  · exact wpAny_Name (wpAny_loadName_local I.ok.kind hk hn hm fin) hd
  · rcases hk with hk | hk
    · exact wpAny_Name (wpAny_loadName_cell I.ok.kind hk hc hcell fin) hd
    · exact wpAny_Name (wpAny_loadName_free I.ok.kind hk hc hcell fin hcd) hd
theorem pe_int {i j pos} : PE X (.Constant (.int i) j pos) (tC (.int i)) := fun _ _ _ H _ I h => wpAny_Constant_int ⟨.int i, H, I.tok _, ⟨_, rfl⟩, h⟩
theorem pe_bl {b j pos} : PE X (.Constant (.bool b) j pos) (tC (.bl b)) := fun _ _ _ H _ I h => Constant_bool ⟨.bl b, H, I, rfl, h⟩
theorem pe_non {j pos} : PE X (.Constant .none j pos) (tC .non) := fun _ _ _ H _ I h => Constant_none ⟨.non, H, I, rfl, h⟩
theorem pe_str {x j pos} : PE X (.Constant (.str x) j pos) (tC (.str x)) := fun _ _ _ H _ I h => Calls.Constant_str ⟨.str x, H, I.tok _, ⟨_, rfl⟩, h⟩

/-- a global name of the def -/
def Gl (X : Cx) (x : Str) : Prop := X.env.kindOf x = some .globalImplicit
theorem ld_glob {E : Value → Shared → Prop} {pins : List (Addr × Obj)} {s : Shared} {σ : St} {H : Hp} {x : Str} {u : Value} {pos : Pos} {Q : Value → Shared → Prop} (I : Inv X pins σ H s) (hg : Gl X x) (hm : X.mg x = some u) (h : Q u s)
    (hd : (x == ("__debug__" : Str)) = false := by decide) : wpAny (model X.prog X.w) X.A (eval (.Name x pos) X.env) Q E s :=
  Calls.Name_function_global I.ok.kind hg (Calls.loadGlobal_global (by rw [I.ok.glob]; exact I.mod.glob.keeps I.bk) hm h) hd
theorem ld_blt {E : Value → Shared → Prop} {pins : List (Addr × Obj)} {s : Shared} {σ : St} {H : Hp} {x : Str} {u : Value} {pos : Pos} {Q : Value → Shared → Prop} (I : Inv X pins σ H s) (hg : Gl X x) (hm : X.mg x = none) (hv : bootBuiltins x = some u) (h : Q u s)
    (hn : x ≠ "__name__" := by decide) (hd : (x == ("__debug__" : Str)) = false := by decide) : wpAny (model X.prog X.w) X.A (eval (.Name x pos) X.env) Q E s := by
  obtain ⟨mb, h1, h2⟩ := I.mod.blt
  exact Calls.Name_function_global I.ok.kind hg (Calls.loadGlobal_builtin (by rw [I.ok.glob]; exact I.mod.glob.keeps I.bk) hm (by rw [I.ok.blt]; exact h1.keeps I.bk) ((h2 x hn).trans hv) h) hd
/-- a module's constant, a class, a function, as a value -/
theorem pe_glob {x : Str} {v : V} {u : Value} {pos : Pos} (hg : Gl X x) (hm : X.mg x = some u) (r : RelV v u) (hd : (x == ("__debug__" : Str)) = false := by decide) : PE X (.Name x pos) (tC v) :=
  fun _ _ _ H _ I h => ld_glob I hg hm ⟨v, H, I, r, h⟩ hd
theorem pe_bltn {x : Str} {v : V} {u : Value} {pos : Pos} (hg : Gl X x) (hm : X.mg x = none) (hv : bootBuiltins x = some u) (r : RelV v u) (hn : x ≠ "__name__" := by decide) (hd : (x == ("__debug__" : Str)) = false := by decide) : PE X (.Name x pos) (tC v) :=
  fun _ _ _ H _ I h => ld_blt I hg hm hv ⟨v, H, I, r, h⟩ hn hd

/-! ### arithmetic -/
/-- two ints -/
def t2I (ta tb : TE) (k : Int → Int → Hp → Prop) : St → Hp → Prop := fun σ H => ta σ H fun x H1 => tb σ H1 fun y H2 => ∃ i j, x = .int i ∧ y = .int j ∧ k i j H2
def tAdd (ta tb : TE) : TE := fun σ H Q => t2I ta tb (fun i j H2 => Q (.int (i + j)) H2) σ H
def tSub (ta tb : TE) : TE := fun σ H Q => t2I ta tb (fun i j H2 => Q (.int (i - j)) H2) σ H
/-- the left factor below 2^64 -/
def tMul (ta tb : TE) : TE := fun σ H Q => t2I ta tb (fun i j H2 => (-(2 ^ 64) < i ∧ i < 2 ^ 64) ∧ Q (.int (i * j)) H2) σ H
variable {a b : Expr} {ta tb : TE} {pos : Pos}
theorem pe_add (ha : PE X a ta) (hb : PE X b tb) : PE X (.BinOp a .Add b pos) (tAdd ta tb) := by
  intro pins s σ H Q I h
  refine wpAny_BinOp (bin ha hb I h fun v u s2 x y H2 I2 rx ry q => ?_)
  obtain ⟨i, j, rfl, rfl, q⟩ := q
  obtain ⟨t, rfl⟩ := rx
  obtain ⟨t', rfl⟩ := ry
  exact add_int ⟨.int _, H2, I2.tok _, ⟨_, rfl⟩, q⟩
theorem pe_sub (ha : PE X a ta) (hb : PE X b tb) : PE X (.BinOp a .Sub b pos) (tSub ta tb) := by
  intro pins s σ H Q I h
  refine wpAny_BinOp (bin ha hb I h fun v u s2 x y H2 I2 rx ry q => ?_)
  obtain ⟨i, j, rfl, rfl, q⟩ := q
  obtain ⟨t, rfl⟩ := rx
  obtain ⟨t', rfl⟩ := ry
  exact sub_int ⟨.int _, H2, I2.tok _, ⟨_, rfl⟩, q⟩
theorem pe_mul (ha : PE X a ta) (hb : PE X b tb) : PE X (.BinOp a .Mult b pos) (tMul ta tb) := by
  intro pins s σ H Q I h
  refine wpAny_BinOp (bin ha hb I h fun v u s2 x y H2 I2 rx ry q => ?_)
  obtain ⟨i, j, rfl, rfl, ⟨q1, q2⟩, q⟩ := q
  obtain ⟨t, rfl⟩ := rx
  obtain ⟨t', rfl⟩ := ry
  exact mul_int ⟨.int _, H2, I2.tok _, ⟨_, rfl⟩, q⟩ (.of_left (intBits_le_64 q1 q2))

/-! ### comparisons -/
def PC (X : Cx) (op : CmpOp) (a b : Expr) (t : TE) : Prop :=
  ∀ (pins : List (Addr × Obj)) (s : Shared) (σ : St) (H : Hp) (Q : VK), Inv X pins σ H s → t σ H Q →
    wpAny (model X.prog X.w) X.A (eval a X.env) (fun v s₁ => wpAny (model X.prog X.w) X.A (eval b X.env) (fun u s₂ => wpAny (model X.prog X.w) X.A (compareOp op v u) (EP X pins σ Q) X.xe s₂) X.xe s₁) X.xe s
theorem nobehind (b : Expr) {op : CmpOp} (h : op ≠ .In) (h2 : op ≠ .NotIn) : behindInMarks op b = false := by
  have e1 : (op == CmpOp.In) = false := by cases op <;> first | rfl | exact absurd rfl h
  have e2 : (op == CmpOp.NotIn) = false := by cases op <;> first | rfl | exact absurd rfl h2
  cases b <;> simp [behindInMarks, e1, e2]
def tCmp (p : Int → Int → Bool) (ta tb : TE) : TE := fun σ H Q => t2I ta tb (fun i j H2 => Q (.bl (p i j)) H2) σ H
abbrev tLt : TE → TE → TE := tCmp fun i j => decide (i < j)
abbrev tLe : TE → TE → TE := tCmp fun i j => decide (i ≤ j)
abbrev tGt : TE → TE → TE := tCmp fun i j => decide (j < i)
abbrev tGe : TE → TE → TE := tCmp fun i j => decide (j ≤ i)
abbrev tEqI : TE → TE → TE := tCmp fun i j => decide (i = j)
abbrev tNeI : TE → TE → TE := tCmp fun i j => !decide (i = j)
/-- a comparison of two ints, by its rule -/
theorem pc_int {op : CmpOp} {p : Int → Int → Bool} (ha : PE X a ta) (hb : PE X b tb)
    (rule : ∀ (i j : Int) (t u : Tok) (Q : Value → Shared → Prop) (s : Shared), Q (.bool (p i j)) s → wpAny (model X.prog X.w) X.A (compareOp op (.int i t) (.int j u)) Q X.xe s) : PC X op a b (tCmp p ta tb) := by
  intro pins s σ H Q I h
  refine bin ha hb I h fun v u s2 x y H2 I2 rx ry q => ?_
  obtain ⟨i, j, rfl, rfl, q⟩ := q
  obtain ⟨t, rfl⟩ := rx
  obtain ⟨t', rfl⟩ := ry
  exact rule i j t t' _ s2 ⟨.bl _, H2, I2, rfl, q⟩
theorem pc_lt (ha : PE X a ta) (hb : PE X b tb) : PC X .Lt a b (tLt ta tb) := pc_int ha hb fun _ _ _ _ _ _ h => lt_int h
theorem pc_le (ha : PE X a ta) (hb : PE X b tb) : PC X .LtE a b (tLe ta tb) := pc_int ha hb fun _ _ _ _ _ _ h => le_int h
theorem pc_gt (ha : PE X a ta) (hb : PE X b tb) : PC X .Gt a b (tGt ta tb) := pc_int ha hb fun _ _ _ _ _ _ h => gt_int h
theorem pc_ge (ha : PE X a ta) (hb : PE X b tb) : PC X .GtE a b (tGe ta tb) := pc_int ha hb fun _ _ _ _ _ _ h => ge_int h
theorem pc_eqI (ha : PE X a ta) (hb : PE X b tb) : PC X .Eq a b (tEqI ta tb) := pc_int ha hb fun _ _ _ _ _ _ h => eq_int (by rw [Bool.beq_eq_decide_eq]; exact h)
theorem pc_neI (ha : PE X a ta) (hb : PE X b tb) : PC X .NotEq a b (tNeI ta tb) := pc_int ha hb fun _ _ _ _ _ _ h => ne_int (by rw [bne, Bool.beq_eq_decide_eq]; exact h)
/-- is None -/
def tIsN (ta : TE) : TE := fun σ H Q => ta σ H fun x H1 => Q (.bl (decide (x = .non))) H1
def tNotN (ta : TE) : TE := fun σ H Q => ta σ H fun x H1 => Q (.bl (!decide (x = .non))) H1
theorem RelV.none_iff {x : V} {v : Value} (r : RelV x v) : (v == Value.none) = decide (x = .non) := by
  cases x with
  | non => cases r; rfl
  | bl _ => cases r; rfl
  | int _ => obtain ⟨t, rfl⟩ := r; rfl
  | str _ => obtain ⟨t, rfl⟩ := r; rfl
  | byt _ => obtain ⟨t, rfl⟩ := r; rfl
  | flt _ => obtain ⟨t, rfl⟩ := r; rfl
  | ref _ => cases r; rfl
  | ty _ => cases r; rfl
theorem pc_isN {j pos'} (ha : PE X a ta) : PC X .Is a (.Constant .none j pos') (tIsN ta) := by
  intro pins s σ H Q I h
  refine thn (ha pins s σ H _ I h) fun v s1 ⟨x, H1, I1, r1, q1⟩ => ?_
  exact Constant_none (is_none_gen ⟨.bl _, H1, I1, by rw [r1.none_iff]; rfl, q1⟩)
theorem pc_notN {j pos'} (ha : PE X a ta) : PC X .IsNot a (.Constant .none j pos') (tNotN ta) := by
  intro pins s σ H Q I h
  refine thn (ha pins s σ H _ I h) fun v s1 ⟨x, H1, I1, r1, q1⟩ => ?_
  exact Constant_none (isnot_none_gen ⟨.bl _, H1, I1, by rw [r1.none_iff]; rfl, q1⟩)
/-- a comparison as a value, as a test -/
def tB (t : TE) : TT := fun σ H Q => t σ H fun x H1 => ∃ c, x = .bl c ∧ Q c H1
theorem pe_cmp {op : CmpOp} {t : TE} (h : PC X op a b t) (h1 : behindInMarks op b = false := by first | exact nobehind _ (by decide) (by decide) | rfl) : PE X (.Compare a [op] [b] pos) t := fun pins s σ H Q I hw => wpAny_Compare1 (h pins s σ H Q I hw) h1
theorem pt_cmp {op : CmpOp} {t : TE} (h : PC X op a b t) (h1 : behindInMarks op b = false := by first | exact nobehind _ (by decide) (by decide) | rfl) : PT X (.Compare a [op] [b] pos) (tB t) := by
  intro pins s σ H Q I hw
  refine wpAny_isTrue_Compare1 (thn (h pins s σ H _ I hw) fun v s1 h1 => thn h1 fun u s2 h2 => thn h2 fun c s3 ⟨x, H1, I1, r1, q1⟩ => ?_) h1
  obtain ⟨d, rfl, q⟩ := q1
  cases r1
  exact wpAny_truthy_bool ⟨H1, I1, q⟩
/-- an expression whose value is a bool, as a test -/
theorem pt_val {e : Expr} {t : TE} (h : PE X e t) (he : ∀ whole, isTrue e X.env whole = (do let v ← whole; standAt e.pos; holding [v] (truthy v)) := by intro _; rfl) : PT X e (tB t) := by
  intro pins s σ H Q I hw
  refine isTrue_plain (thn (h pins s σ H _ I hw) fun v s1 ⟨x, H1, I1, r1, q1⟩ => ?_) (he _)
  obtain ⟨d, rfl, q⟩ := q1
  cases r1
  exact wpAny_truthy_bool ⟨H1, I1, q⟩

/-! ### and, or, not -/
variable {tA tB' : TT} {rest : List Expr}
def tAnd (t u : TT) : TT := fun σ H Q => t σ H fun c H1 => if c = true then u σ H1 Q else Q false H1
def tOr (t u : TT) : TT := fun σ H Q => t σ H fun c H1 => if c = true then Q true H1 else u σ H1 Q
def tNot (t : TT) : TT := fun σ H Q => t σ H fun c H1 => Q (!c) H1
theorem pw_and1 (ha : PT X a tA) : PW X (.BoolOp .And [a] pos) tA := by
  intro wh pins s σ H Q I h
  refine isTrue_and (thn (ha pins s σ H Q I h) fun c s1 e => ?_)
  cases c with
  | true => exact isTrue_and_nil e
  | false => exact e
theorem pw_or1 (ha : PT X a tA) : PW X (.BoolOp .Or [a] pos) tA := by
  intro wh pins s σ H Q I h
  refine isTrue_or (thn (ha pins s σ H Q I h) fun c s1 e => ?_)
  cases c with
  | false => exact isTrue_or_nil e
  | true => exact e
theorem pw_and (ha : PT X a tA) (hb : PW X (.BoolOp .And (b :: rest) pos) tB') : PW X (.BoolOp .And (a :: b :: rest) pos) (tAnd tA tB') := by
  intro wh pins s σ H Q I h
  refine isTrue_and (thn (ha pins s σ H _ I h) fun c s1 ⟨H1, I1, q1⟩ => ?_)
  cases c with
  | true => exact hb wh pins s1 σ H1 Q I1 q1
  | false => exact ⟨H1, I1, q1⟩
theorem pw_or (ha : PT X a tA) (hb : PW X (.BoolOp .Or (b :: rest) pos) tB') : PW X (.BoolOp .Or (a :: b :: rest) pos) (tOr tA tB') := by
  intro wh pins s σ H Q I h
  refine isTrue_or (thn (ha pins s σ H _ I h) fun c s1 ⟨H1, I1, q1⟩ => ?_)
  cases c with
  | true => exact ⟨H1, I1, q1⟩
  | false => exact hb wh pins s1 σ H1 Q I1 q1
theorem pt_not (ha : PT X a tA) : PT X (.UnaryOp .Not a pos) (tNot tA) := by
  intro pins s σ H Q I h
  exact isTrue_not (ha pins s σ H (fun c H1 => Q (!c) H1) I h)
/-- .. as values (bools) -/
def tAndV (ta tb : TE) : TE := fun σ H Q => ta σ H fun x H1 => ∃ c, x = .bl c ∧ if c = true then tb σ H1 Q else Q (.bl false) H1
def tOrV (ta tb : TE) : TE := fun σ H Q => ta σ H fun x H1 => ∃ c, x = .bl c ∧ if c = true then Q (.bl true) H1 else tb σ H1 Q
def tNotV (ta : TE) : TE := fun σ H Q => ta σ H fun x H1 => ∃ c, x = .bl c ∧ Q (.bl (!c)) H1
theorem pe_one {op} {t : TE} (h : PE X a t) : PE X (.BoolOp op [a] pos) t := fun pins s σ H Q I hw => BoolOp_one (h pins s σ H Q I hw)
theorem pe_and (ha : PE X a ta) (hb : PE X (.BoolOp .And (b :: rest) pos) tb) : PE X (.BoolOp .And (a :: b :: rest) pos) (tAndV ta tb) := by
  intro pins s σ H Q I h
  refine BoolOp_and (thn (ha pins s σ H _ I h) fun v s1 ⟨x, H1, I1, r1, q1⟩ => ?_)
  obtain ⟨c, rfl, q1⟩ := q1
  cases r1
  refine wpAny_truthy_bool ?_
  cases c with
  | true => exact hb pins s1 σ H1 Q I1 q1
  | false => exact ⟨.bl false, H1, I1, rfl, q1⟩
theorem pe_or (ha : PE X a ta) (hb : PE X (.BoolOp .Or (b :: rest) pos) tb) : PE X (.BoolOp .Or (a :: b :: rest) pos) (tOrV ta tb) := by
  intro pins s σ H Q I h
  refine BoolOp_or (thn (ha pins s σ H _ I h) fun v s1 ⟨x, H1, I1, r1, q1⟩ => ?_)
  obtain ⟨c, rfl, q1⟩ := q1
  cases r1
  refine wpAny_truthy_bool ?_
  cases c with
  | false => exact hb pins s1 σ H1 Q I1 q1
  | true => exact ⟨.bl true, H1, I1, rfl, q1⟩
theorem pe_not (ha : PE X a ta) : PE X (.UnaryOp .Not a pos) (tNotV ta) := by
  intro pins s σ H Q I h
  refine UnaryOp_ (thn (ha pins s σ H _ I h) fun v s1 ⟨x, H1, I1, r1, q1⟩ => ?_)
  obtain ⟨c, rfl, q1⟩ := q1
  cases r1
  exact not_of (wpAny_truthy_bool ⟨.bl (!c), H1, I1, rfl, q1⟩)
/-- a if t else b -/
def tIf (t : TT) (ta tb : TE) : TE := fun σ H Q => t σ H fun c H1 => if c = true then ta σ H1 Q else tb σ H1 Q
theorem pe_ifExp {c : Expr} (hc : PT X c tA) (ha : PE X a ta) (hb : PE X b tb) : PE X (.IfExp c a b pos) (tIf tA ta tb) := by
  intro pins s σ H Q I h
  refine wpAny_IfExp (thn (hc pins s σ H _ I h) fun d s1 ⟨H1, I1, q1⟩ => ?_)
  cases d with
  | true => exact ha pins s1 σ H1 Q I1 q1
  | false => exact hb pins s1 σ H1 Q I1 q1
end
end L2

namespace L2
open PySem PySem.Spec PyProof.Rows

/-! ### a list, a tuple that is read: tracked, frozen, or an object of the module -/
def SqL (K : PySem.W.Frag) (H : Hp) (a : Addr) (xs : List V) : Prop :=
  Rd H a (.lst xs) ∨
    ∃ (o : Obj) (its : Array Value) (n : Nat), K.lookup a = some o ∧ o.cls = .type "list" ∧ o.dict = none ∧ o.data = .seq its n ∧ its.size ≤ sizeLine ∧ Vals xs its.toList
def SqT (K : PySem.W.Frag) (H : Hp) (a : Addr) (xs : List V) : Prop :=
  Rd H a (.tup xs) ∨
    ∃ (o : Obj) (its : Array Value) (n : Nat), K.lookup a = some o ∧ o.cls = .type "tuple" ∧ o.data = .seq its n ∧ its.size ≤ sizeLine ∧ Vals xs its.toList
def absV : Value → Option V
  | .none => some .non
  | .bool b => some (.bl b)
  | .int i _ => some (.int i)
  | .str x _ => some (.str x)
  | .bytes b _ => some (.byt b)
  | .float b _ => some (.flt b)
  | .ref a => some (.ref a)
  | .type n => some (.ty n)
  | _ => none
theorem RelV.abs {x : V} {u : Value} (r : RelV x u) : absV u = some x := by
  cases x with
  | non => cases r; rfl
  | bl _ => cases r; rfl
  | int _ => obtain ⟨t, rfl⟩ := r; rfl
  | str _ => obtain ⟨t, rfl⟩ := r; rfl
  | byt _ => obtain ⟨t, rfl⟩ := r; rfl
  | flt _ => obtain ⟨t, rfl⟩ := r; rfl
  | ref _ => cases r; rfl
  | ty _ => cases r; rfl
theorem RelV.inj {x y : V} {u : Value} (r : RelV x u) (q : RelV y u) : x = y := Option.some.inj (r.abs.symm.trans q.abs)
theorem Vals.inj : ∀ {xs ys : List V} {us : List Value}, Vals xs us → Vals ys us → xs = ys
  | _, _, _, .nil, .nil => rfl
  | _, _, _, .cons r t, .cons r' t' => by rw [r.inj r', Vals.inj t t']
section
variable {X : Cx} {pins : List (Addr × Obj)} {σ : St} {H : Hp} {s : Shared} {a : Addr} {xs ys : List V}
theorem SqL.of {K : PySem.W.Frag} (h : H a = some (.lst xs)) : SqL K H a xs := .inl (.inl h)
theorem SqT.of {K : PySem.W.Frag} (h : H a = some (.tup xs)) : SqT K H a xs := .inl (.inl h)
theorem Inv.list (I : Inv X pins σ H s) (h : SqL X.K H a xs) : ∃ its : List Value, Vals xs its ∧ PlainL s.heap a its.toArray ∧ xs.length ≤ sizeLine := by
  rcases h with h | ⟨o, its, n, hk, hc, hd, hs, hz, r⟩
  · obtain ⟨z, its, n, r, e⟩ := h.ok I.hok
    exact ⟨its, r, ⟨_, n, e, rfl, rfl, rfl⟩, z⟩
  · refine ⟨its.toList, r, ⟨o, n, I.kIn a o hk, hc, hd, by simpa using hs⟩, ?_⟩
    have e := r.length
    simp only [Array.length_toList] at e
    omega
theorem Inv.tuple (I : Inv X pins σ H s) (h : SqT X.K H a xs) : ∃ its : List Value, Vals xs its ∧ IsTup s.heap a its.toArray ∧ xs.length ≤ sizeLine := by
  rcases h with h | ⟨o, its, n, hk, hc, hs, hz, r⟩
  · obtain ⟨z, its, r, p⟩ := h.ok I.hok
    exact ⟨its, r, p, z⟩
  · refine ⟨its.toList, r, ⟨o, I.kIn a o hk, hc, n, by simpa using hs⟩, ?_⟩
    have e := r.length
    simp only [Array.length_toList] at e
    omega
theorem Inv.list_inj (I : Inv X pins σ H s) (h : SqL X.K H a xs) (h' : SqL X.K H a ys) : xs = ys := by
  obtain ⟨its, r, ⟨o, n, e, _, _, d⟩, _⟩ := I.list h
  obtain ⟨its', r', ⟨o', n', e', _, _, d'⟩, _⟩ := I.list h'
  rw [e] at e'; cases e'
  rw [d] at d'
  injection d' with d1 _
  have : its = its' := by simpa using congrArg Array.toList d1
  subst this
  exact r.inj r'
theorem Inv.tuple_inj (I : Inv X pins σ H s) (h : SqT X.K H a xs) (h' : SqT X.K H a ys) : xs = ys := by
  obtain ⟨its, r, ⟨o, e, _, n, d⟩, _⟩ := I.tuple h
  obtain ⟨its', r', ⟨o', e', _, n', d'⟩, _⟩ := I.tuple h'
  rw [e] at e'; cases e'
  rw [d] at d'
  injection d' with d1 _
  have : its = its' := by simpa using congrArg Array.toList d1
  subst this
  exact r.inj r'
end

/-! ### another wish about exceptions -/
abbrev Cx.wish (X : Cx) (E : Value → Shared → Prop) : Cx := { X with xe := E }
/-- no exception leaves -/
abbrev Cx.nox (X : Cx) : Cx := X.wish fun _ _ => False
theorem Cx.Ok.wish {X : Cx} (ok : X.Ok) (E : Value → Shared → Prop) : (X.wish E).Ok :=
  ⟨ok.mod, ok.kind, ok.glob, ok.blt, ok.above, ok.inj, ok.has, ok.cab, ok.hd, ok.frames, ok.stk, ok.exf, ok.bs, ok.bsz, ok.noex, ok.exfs, ok.funs, ok.frf⟩
theorem Cx.Ok.unwish {X : Cx} {E : Value → Shared → Prop} (ok : (X.wish E).Ok) : X.Ok :=
  ⟨ok.mod, ok.kind, ok.glob, ok.blt, ok.above, ok.inj, ok.has, ok.cab, ok.hd, ok.frames, ok.stk, ok.exf, ok.bs, ok.bsz, ok.noex, ok.exfs, ok.funs, ok.frf⟩
section
variable {X : Cx} {pins : List (Addr × Obj)} {σ : St} {H : Hp} {s : Shared} {E : Value → Shared → Prop}
theorem Inv.wish (I : Inv X pins σ H s) (E : Value → Shared → Prop) : Inv (X.wish E) pins σ H s := ⟨I.ok.wish E, I.os, I.bare, I.base, I.loc, I.cell, I.free, I.freeC, I.pin, I.hok, I.len⟩
theorem Inv.unwish (I : Inv (X.wish E) pins σ H s) : Inv X pins σ H s := ⟨I.ok.unwish, I.os, I.bare, I.base, I.loc, I.cell, I.free, I.freeC, I.pin, I.hok, I.len⟩
theorem SP.unwish {D : Ends} {f : Flow} {s' : Shared} (h : SP (X.wish E) pins D f s') : SP X pins D f s' := by
  cases f with
  | next => obtain ⟨σ', H', I, q⟩ := h; exact ⟨σ', H', I.unwish, q⟩
  | brk => obtain ⟨σ', H', I, q⟩ := h; exact ⟨σ', H', I.unwish, q⟩
  | cont => obtain ⟨σ', H', I, q⟩ := h; exact ⟨σ', H', I.unwish, q⟩
  | ret u => obtain ⟨v, σ', H', I, r, q⟩ := h; exact ⟨v, σ', H', I.unwish, r, q⟩
theorem PE.nox {e : Expr} {t : TE} (h : PE X.nox e t) : PE X e t := fun pins s σ H Q I hw =>
  wpAny_mono (h pins s σ H Q (I.wish _) hw) (fun _ _ ⟨v, H', I', r, q⟩ => ⟨v, H', I'.unwish, r, q⟩) fun _ _ z => False.elim z
theorem PT.nox {e : Expr} {t : TT} (h : PT X.nox e t) : PT X e t := fun pins s σ H Q I hw =>
  wpAny_mono (h pins s σ H Q (I.wish _) hw) (fun _ _ ⟨H', I', q⟩ => ⟨H', I'.unwish, q⟩) fun _ _ z => False.elim z
theorem PSs.nox {st : List Stmt} {t : TS} (h : PSs X.nox st t) : PSs X st t := fun pins s σ H D I hw =>
  wpAny_mono (h pins s σ H D (I.wish _) hw) (fun _ _ q => q.unwish) fun _ _ z => False.elim z
end

/-! ### blocks and small statements -/
section
variable {X : Cx} {st : Stmt} {rest : List Stmt} {t u : TS} {e : Expr} {te : TE} {pos : Pos}
def tNext : TS := fun D σ H => D.nx σ H
def tSeq (t u : TS) : TS := fun D σ H => t { D with nx := u D } σ H
theorem pss_nil : PSs X [] tNext := fun _ _ σ H _ I h => wpAny_execs_nil ⟨σ, H, I, h⟩
theorem pss_cons (h1 : PS X st t) (h2 : PSs X rest u) : PSs X (st :: rest) (tSeq t u) := by
  intro pins s σ H D I h
  refine wpAny_execs_cons (thn (h1 pins s σ H { D with nx := u D } I h) fun f s1 q => ?_)
  cases f with
  | next =>
    obtain ⟨σ', H', I', q⟩ := q
    exact h2 pins s1 σ' H' D I' q
  | ret v => exact q
  | brk => exact q
  | cont => exact q
theorem pss_one (h1 : PS X st t) : PSs X [st] t := by
  intro pins s σ H D I h
  refine wpAny_execs_cons (thn (h1 pins s σ H D I h) fun f s1 q => ?_)
  cases f with
  | next => exact wpAny_execs_nil q
  | ret v => exact q
  | brk => exact q
  | cont => exact q
def tBreak : TS := fun D σ H => D.bk σ H
def tCont : TS := fun D σ H => D.ct σ H
theorem ps_pass : PS X (.Pass pos) tNext := fun _ _ σ H _ I h => wpAny_Pass ⟨σ, H, I, h⟩
theorem ps_break : PS X (.Break pos) tBreak := fun _ _ σ H _ I h => wpAny_Break ⟨σ, H, I, h⟩
theorem ps_continue : PS X (.Continue pos) tCont := fun _ _ σ H _ I h => wpAny_Continue ⟨σ, H, I, h⟩
/-- in a def's body nothing is shown -/
theorem Inv.quiet {pins : List (Addr × Obj)} {σ : St} {H : Hp} {s : Shared} (I : Inv X pins σ H s) : interactive X.env = false := by simp [interactive, I.ok.kind]
/-- a docstring -/
theorem ps_doc {x j pos pos'} : PS X (.Expr (.Constant (.str x) j pos) pos') tNext := fun _ s σ H _ I h => wpAny_Expr (Calls.Constant_str (show SP X _ _ .next { s with toks := s.toks + 1 } from ⟨σ, H, I.tok _, h⟩)) I.quiet
/-- an expression whose value is dropped -/
def tDrop (te : TE) : TS := fun D σ H => te σ H fun _ H1 => D.nx σ H1
theorem ps_expr (he : PE X e te) (hs : swapsWith e none pos.line X.env = pure false := by rfl) : PS X (.Expr e pos) (tDrop te) := by
  intro pins s σ H D I h
  exact wpAny_Expr_any (thn (he pins s σ H _ I h) fun v s1 ⟨x, H1, I1, r1, q1⟩ => ⟨σ, H1, I1, q1⟩) I.quiet hs
def tRet (te : TE) : TS := fun D σ H => te σ H D.rt
theorem ps_ret (he : PE X e te) : PS X (.Return (some e) pos) (tRet te) := by
  intro pins s σ H D I h
  exact wpAny_Return_some (thn (he pins s σ H _ I h) fun v s1 ⟨x, H1, I1, r1, q1⟩ => ⟨x, σ, H1, I1, r1, q1⟩)
def tRetN : TS := fun D _ H => D.rt .non H
theorem ps_retN : PS X (.Return none pos) tRetN := fun _ _ σ H _ I h => wpAny_Return_none ⟨.non, σ, H, I, rfl, h⟩
def tIfS (c : TT) (t u : TS) : TS := fun D σ H => c σ H fun b H1 => if b = true then t D σ H1 else u D σ H1
theorem ps_if {c : Expr} {a b : List Stmt} {tc : TT} (hc : PT X c tc) (ha : PSs X a t) (hb : PSs X b u) : PS X (.If c a b pos) (tIfS tc t u) := by
  intro pins s σ H D I h
  refine wpAny_If (thn (hc pins s σ H _ I h) fun d s1 ⟨H1, I1, q1⟩ => ?_)
  cases d with
  | true => exact ha pins s1 σ H1 D I1 q1
  | false => exact hb pins s1 σ H1 D I1 q1
/-- code that the proof never comes to -/
def tNever : TS := fun _ _ _ => False
theorem ps_never : PS X st tNever := fun _ _ _ _ _ _ h => h.elim
theorem pss_never {sts : List Stmt} : PSs X sts tNever := fun _ _ _ _ _ _ h => h.elim
end

/-! ### targets -/
abbrev TG := V → St → Hp → (St → Hp → Prop) → Prop
abbrev TGs := List V → St → Hp → (St → Hp → Prop) → Prop
def PG (X : Cx) (target : Expr) (t : TG) : Prop :=
  ∀ (pins : List (Addr × Obj)) (s : Shared) (σ : St) (H : Hp) (v : V) (u : Value) (Q : St → Hp → Prop), Inv X pins σ H s → RelV v u → t v σ H Q →
    wpAny (model X.prog X.w) X.A (assign target X.env u) (fun _ s' => ∃ σ' H', Inv X pins σ' H' s' ∧ Q σ' H') X.xe s
/-- several targets, one after another -/
def PGs (X : Cx) (ts : List Expr) (t : TGs) : Prop :=
  ∀ (pins : List (Addr × Obj)) (s : Shared) (σ : St) (H : Hp) (vs : List V) (us : List Value) (Q : St → Hp → Prop), Inv X pins σ H s → Vals vs us → t vs σ H Q →
    wpAny (model X.prog X.w) X.A (assignInOrder ((assignEach ts X.env).map (·.2)) us) (fun _ s' => ∃ σ' H', Inv X pins σ' H' s' ∧ Q σ' H') X.xe s
/-- o[i] = v, by values -/
abbrev TSet := V → V → V → Hp → (Hp → Prop) → Prop
def PSet (X : Cx) (t : TSet) : Prop :=
  ∀ (pins : List (Addr × Obj)) (s : Shared) (σ : St) (H : Hp) (o i v : V) (ov iv u : Value) (Q : Hp → Prop), Inv X pins σ H s → RelV o ov → RelV i iv → RelV v u → t o i v H Q →
    wpAny (model X.prog X.w) X.A (setItem ov iv u) (fun _ s' => ∃ H', Inv X pins σ H' s' ∧ Q H') X.xe s
/-- a op= b, by values -/
abbrev TIp := V → V → Hp → VK → Prop
def PIp (X : Cx) (op : Operator) (t : TIp) : Prop :=
  ∀ (pins : List (Addr × Obj)) (s : Shared) (σ : St) (H : Hp) (x y : V) (v u : Value) (Q : VK), Inv X pins σ H s → RelV x v → RelV y u → t x y H Q →
    wpAny (model X.prog X.w) X.A (inplaceOp op v u) (EP X pins σ Q) X.xe s
section
variable {X : Cx} {pos : Pos}
def gName (i : Nat) : TG := fun v σ H Q => Q (σ.set i (some v)) H
theorem pg_name {i : Nat} {x : Str} (hN : X.N.Nodup) (hi : X.N[i]? = some x) (hx : Loc X.env.scope x) (hf : X.fn x = true ∨ X.env.scope.names.lookup x = some .local := by first | exact .inl rfl | exact .inr rfl | assumption) : PG X (.Name x pos) (gName i) := by
  intro pins s σ H v u Q I r h
  exact wpAny_assign_Name (store_ok I hN hi hx r (fun s' I' => ⟨_, H, I', h⟩) hf)
def gNil : TGs := fun vs σ H Q => vs = [] ∧ Q σ H
def gCons (t : TG) (u : TGs) : TGs := fun vs σ H Q => ∃ v r, vs = v :: r ∧ t v σ H fun σ' H' => u r σ' H' Q
theorem pgs_nil : PGs X [] gNil := by
  intro pins s σ H vs us Q I r h
  obtain ⟨e, h⟩ := h
  subst e
  cases r
  exact assignInOrder_nil ⟨σ, H, I, h⟩
theorem pgs_cons {e : Expr} {es : List Expr} {t : TG} {u : TGs} (h1 : PG X e t) (h2 : PGs X es u)
    (hs : (assignEach (e :: es) X.env).map (·.2) = assign e X.env :: (assignEach es X.env).map (·.2) := by rfl) : PGs X (e :: es) (gCons t u) := by
  intro pins s σ H vs us Q I r h
  obtain ⟨v, vr, e1, h⟩ := h
  subst e1
  cases r with
  | cons r rr =>
    rw [hs]
    refine assignInOrder_cons (thn (h1 pins s σ H _ _ _ I r h) fun _ s1 ⟨σ1, H1, I1, q1⟩ => ?_)
    exact h2 pins s1 σ1 H1 _ _ Q I1 rr q1
/-- (a, b, ..) = a tuple of that length -/
def gTup (K : PySem.W.Frag) (n : Nat) (t : TGs) : TG := fun v σ H Q => ∃ a xs, v = .ref a ∧ SqT K H a xs ∧ xs.length = n ∧ t xs σ H Q
theorem pg_tup {es : List Expr} {k : Nat} {t : TGs} {n : Nat} (hc : X.calm = true) (h : PGs X es t)
    (hn : (assignEach es X.env).length = n := by rfl) (hst : (assignEach es X.env).findIdx? (·.1) = none := by rfl) : PG X (.Tuple es k pos) (gTup X.K n t) := by
  intro pins s σ H v u Q I r hw
  obtain ⟨a, xs, e1, hq, hl, hw⟩ := hw
  subst e1
  cases r
  obtain ⟨its, rv, ht, hz⟩ := I.tuple hq
  refine assign_Tuple_tuple (I.ok.hd hc) ht (by simp [hn, ← hl, rv.length]) hst fun h' hx => ?_
  have I1 : Inv X pins σ H { s with heap := h' } := I.kept (t' := s.toks) fun b o e => hx b o (Nat.ne_of_lt (Heap.lt_size e)) e
  exact h pins _ σ H xs _ Q I1 (by simpa using rv) hw
/-- o[i] = .. -/
def gSub (to ti : TE) (t : TSet) : TG := fun v σ H Q => to σ H fun o H1 => ti σ H1 fun i H2 => t o i v H2 fun H3 => Q σ H3
theorem pg_sub {o i : Expr} {to ti : TE} {t : TSet} (ho : PE X o to) (hi : PE X i ti) (hs : PSet X t)
    (ha : ∀ v, assign (.Subscript o i pos) X.env v = (do
      let ov ← holding [v] (eval o X.env)
      let iv ← holding [v, ov] (eval i X.env)
      standAt pos
      holding [v, ov, iv] (setItem ov iv v)
      release [v, ov, iv] []) := by intro _; rfl) : PG X (.Subscript o i pos) (gSub to ti t) := by
  intro pins s σ H v u Q I r h
  rw [ha]
  refine wpAny_bind (wpAny_holding (thn (ho pins s σ H _ I h) fun ov s1 ⟨x, H1, I1, r1, q1⟩ => ?_))
  refine wpAny_bind (wpAny_holding (thn (hi pins s1 σ H1 _ I1 q1) fun iv s2 ⟨y, H2, I2, r2, q2⟩ => ?_))
  refine wpAny_bind (wpAny_standAt (wpAny_bind (wpAny_holding (thn (hs pins s2 σ H2 x y v ov iv u _ I2 r1 r2 r q2) fun _ s3 ⟨H3, I3, q3⟩ => ?_))))
  exact wpAny_release ⟨σ, H3, I3, q3⟩
/-- target = value -/
def tAsg (te : TE) (g : TG) : TS := fun D σ H => te σ H fun x H1 => g x σ H1 D.nx
theorem ps_asg {tg e : Expr} {te : TE} {g : TG} (he : PE X e te) (hg : PG X tg g) (hs : swapsWithSole [tg] e pos.line X.env = pure false := by rfl) (hw : swappedStores [tg] e X.env = pure none := by rfl)
    (h1 : (assignEach [tg] X.env).map (·.2) = [assign tg X.env] := by rfl) : PS X (.Assign [tg] e pos) (tAsg te g) := by
  intro pins s σ H D I h
  refine wpAny_Assign_stores (thn (he pins s σ H _ I h) fun v s1 ⟨x, H1, I1, r1, q1⟩ => ?_) hs hw
  rw [h1]
  exact thn (hg pins s1 σ H1 x v _ I1 r1 q1) fun _ s2 q => q
/-- name = value -/
theorem ps_set {i : Nat} {x : Str} {e : Expr} {te : TE} {pos' : Pos} (hN : X.N.Nodup) (hi : X.N[i]? = some x) (hx : Loc X.env.scope x) (he : PE X e te) (hs : swapsWith e (some (.Name x pos')) pos.line X.env = pure false := by rfl) (hf : X.fn x = true ∨ X.env.scope.names.lookup x = some .local := by first | exact .inl rfl | exact .inr rfl | assumption) :
    PS X (.Assign [.Name x pos'] e pos) (tAsg te (gName i)) := by
  intro pins s σ H D I h
  refine wpAny_Assign_Name (thn (he pins s σ H _ I h) fun v s1 ⟨y, H1, I1, r1, q1⟩ => ?_) hs
  exact store_ok I1 hN hi hx r1 (fun s2 I2 => ⟨_, H1, I2, q1⟩) hf
/-- a, b = x, y with plain local names: stored from the right; the pair itself is not tracked (the opening rows as in PyProof/Rows/TupAssign.lean:23) -/
def tPar (i j : Nat) (ta : TA) : TS := fun D σ H => ta σ H fun vs H1 => ∃ v w, vs = [v, w] ∧ D.nx ((σ.set i (some v)).set j (some w)) H1
theorem ps_par {i j : Nat} {x y : Str} {a b : Expr} {ta : TA} {px py pt : Pos} {kt k2 pt2} (hc : X.calm = true) (hN : X.N.Nodup) (hi : X.N[i]? = some x) (hj : X.N[j]? = some y) (hij : i ≠ j)
    (hx : X.env.scope.names.lookup x = some .local) (hy : X.env.scope.names.lookup y = some .local) (ha : PA X [a, b] ta)
    (hw : swappedStores [.Tuple [.Name x px, .Name y py] kt pt] (.Tuple [a, b] k2 pt2) X.env = pure (some [x, y]))
    (hs : swapsWithSole [.Tuple [.Name x px, .Name y py] kt pt] (.Tuple [a, b] k2 pt2) pos.line X.env = pure false := by rfl) :
    PS X (.Assign [.Tuple [.Name x px, .Name y py] kt pt] (.Tuple [a, b] k2 pt2) pos) (tPar i j ta) := by
  intro pins s σ H D I h
  rw [exec_Assign_arm]
  refine wpAny_bind (wpAny_standAt ?_)
  rw [hs]
  refine wpAny_bind (wpAny_pure ?_)
  rw [if_neg (by decide)]
  refine wpAny_bind (Tuple_ (thn (ha _ pins s σ H _ I h) fun us s1 ⟨vs, H1, I1, r1, q1⟩ => ?_))
  obtain ⟨v, w, e1, q1⟩ := q1
  subst e1
  obtain ⟨u1, u2, rfl, rv, rw'⟩ : ∃ u1 u2, us = [u1, u2] ∧ RelV v u1 ∧ RelV w u2 := by
    cases r1 with
    | cons p q =>
      cases q with
      | cons p' q' =>
        cases q'
        exact ⟨_, _, rfl, p, p'⟩
  refine wpAny_newObj_type ?_ (by show 2 ≤ sizeLine; decide)
  have I2 : Inv X pins σ H1 { s1 with heap := s1.heap.push { cls := .type "tuple", data := .seq [u1, u2].toArray } } := I1.kept (t' := s1.toks) fun b o e => Heap.get?_push_of_some _ e
  rw [hw]
  refine wpAny_bind (wpAny_pure ?_)
  show wpAny (model X.prog X.w) X.A (do rule "assign.swapped-stores"; let items ← unpackItems (.ref s1.heap.objs.size) 2 none; assignInOrder [fun v => bindName X.env y v, fun v => bindName X.env x v] items.reverse; pure Flow.next) _ _ _
  refine wpAny_bind (wpAny_rule (wpAny_bind (unpackItems_tuple (items := #[u1, u2]) (I.ok.hd hc) (IsTup.new s1.heap _) fun h' hx' => ?_)))
  have I3 := I2.kept (h' := h') (t' := s1.toks) fun b o e => hx' b o (Nat.ne_of_lt (Heap.lt_size e)) e
  show wpAny _ _ (assignInOrder [fun v => bindName X.env y v, fun v => bindName X.env x v] [u2, u1] >>= fun _ => pure Flow.next) _ _ _
  refine wpAny_bind (assignInOrder_cons (wpAny_bindName (store_ok I3 hN hj (.inl hy) rw' (fun s2 I4 => ?_) (.inr hy))))
  refine assignInOrder_cons (wpAny_bindName (store_ok I4 hN hi (.inl hx) rv (fun s3 I5 => assignInOrder_nil (wpAny_pure ?_)) (.inr hx)))
  rw [List.set_comm _ _ (Ne.symm hij)] at I5
  exact ⟨_, H1, I5, q1⟩
/-- name op= e -/
def tAug (i : Nat) (te : TE) (ti : TIp) : TS := fun D σ H => ∃ x, σ[i]? = some (some x) ∧ te σ H fun y H1 => ti x y H1 fun z H2 => D.nx (σ.set i (some z)) H2
theorem ps_aug {i : Nat} {x : Str} {e : Expr} {te : TE} {op : Operator} {ti : TIp} {pos' : Pos} (hN : X.N.Nodup) (hi : X.N[i]? = some x) (hx : Loc X.env.scope x) (he : PE X e te) (ho : PIp X op ti) (hf : X.fn x = true ∨ X.env.scope.names.lookup x = some .local := by first | exact .inl rfl | exact .inr rfl | assumption) :
    PS X (.AugAssign (.Name x pos') op e pos) (tAug i te ti) := by
  intro pins s σ H D I h
  obtain ⟨v, e1, h⟩ := h
  obtain ⟨m, hn, hl⟩ := I.loc
  have vis : Vis X.env.scope x := by rcases hx with k | k; exact .inl k; exact .inr (.inl k)
  obtain ⟨u, r, l⟩ := hl i x v hi e1 vis
  refine wpAny_AugAssign_Name ?_
  have go : wpAny (model X.prog X.w) X.A (eval e X.env) (fun w s₂ => wpAny (model X.prog X.w) X.A (inplaceOp op u w) (fun r s₃ => wpAny (model X.prog X.w) X.A (storeName X.env x r) (fun _ => SP X pins D .next) X.xe s₃) X.xe s₂) X.xe s := by
    refine thn (he pins s σ H _ I h) fun w s1 ⟨y, H1, I1, r1, q1⟩ => ?_
    refine thn (ho pins s1 σ H1 v y u w _ I1 r r1 q1) fun z s2 ⟨zv, H2, I2, r2, q2⟩ => ?_
    exact store_ok I2 hN hi hx r2 (fun s3 I3 => ⟨_, H2, I3, q2⟩) hf
  rcases l with ⟨hk, hm⟩ | ⟨hk, c, hc, hcell⟩
  · exact wpAny_loadName_local I.ok.kind hk hn hm go
  · rcases hk with hk | hk
    · exact wpAny_loadName_cell I.ok.kind hk hc hcell go
    · rcases hx with k | k
      · have : X.env.scope.names.lookup x = some .free := hk
        rw [k] at this; cases this
      · have : X.env.scope.names.lookup x = some .free := hk
        rw [k] at this; cases this
/-- o[i] op= e -/
def tAugS (to ti te : TE) (tget : V → V → Hp → VK → Prop) (tip : TIp) (tset : TSet) : TS := fun D σ H => to σ H fun o H1 => ti σ H1 fun i H2 => tget o i H2 fun x H3 => te σ H3 fun y H4 => tip x y H4 fun z H5 => tset o i z H5 fun H6 => D.nx σ H6
/-- o[i], by values -/
def PGet (X : Cx) (t : V → V → Hp → VK → Prop) : Prop :=
  ∀ (pins : List (Addr × Obj)) (s : Shared) (σ : St) (H : Hp) (o i : V) (ov iv : Value) (Q : VK), Inv X pins σ H s → RelV o ov → RelV i iv → t o i H Q →
    wpAny (model X.prog X.w) X.A (getItem ov iv) (EP X pins σ Q) X.xe s
theorem ps_augS {o i e : Expr} {to ti te : TE} {tget : V → V → Hp → VK → Prop} {tip : TIp} {tset : TSet} {op : Operator} {tpos : Pos} (ho : PE X o to) (hi : PE X i ti) (hg : PGet X tget) (he : PE X e te) (hp : PIp X op tip) (hs : PSet X tset)
    (ha : ∀ ov iv new, augStore i ov iv new = (do holding [new, ov, iv] (setItem ov iv new); release [new, ov, iv] []; pure .next) := by intros; rfl) : PS X (.AugAssign (.Subscript o i tpos) op e pos) (tAugS to ti te tget tip tset) := by
  intro pins s σ H D I h
  refine wpAny_AugAssign_SubscriptAny (thn (ho pins s σ H _ I h) fun ov s1 ⟨x1, H1, I1, r1, q1⟩ => ?_) ha
  refine thn (hi pins s1 σ H1 _ I1 q1) fun iv s2 ⟨x2, H2, I2, r2, q2⟩ => ?_
  refine thn (hg pins s2 σ H2 x1 x2 ov iv _ I2 r1 r2 q2) fun old s3 ⟨x3, H3, I3, r3, q3⟩ => ?_
  refine thn (he pins s3 σ H3 _ I3 q3) fun v s4 ⟨x4, H4, I4, r4, q4⟩ => ?_
  refine thn (hp pins s4 σ H4 x3 x4 old v _ I4 r3 r4 q4) fun new s5 ⟨x5, H5, I5, r5, q5⟩ => ?_
  exact thn (hs pins s5 σ H5 x1 x2 x5 ov iv new _ I5 r1 r2 r5 q5) fun _ s6 ⟨H6, I6, q6⟩ => ⟨σ, H6, I6, q6⟩
/-- ints -/
def ipI (f : Int → Int → Int) : TIp := fun x y H Q => ∃ i j, x = .int i ∧ y = .int j ∧ Q (.int (f i j)) H
theorem ip_add : PIp X .Add (ipI fun i j => i + j) := by
  intro pins s σ H x y v u Q I r1 r2 h
  obtain ⟨i, j, e1, e2, q⟩ := h
  subst e1; subst e2
  obtain ⟨t, rfl⟩ := r1
  obtain ⟨t', rfl⟩ := r2
  exact iadd_int ⟨.int _, H, I.tok _, ⟨_, rfl⟩, q⟩
theorem ip_sub : PIp X .Sub (ipI fun i j => i - j) := by
  intro pins s σ H x y v u Q I r1 r2 h
  obtain ⟨i, j, e1, e2, q⟩ := h
  subst e1; subst e2
  obtain ⟨t, rfl⟩ := r1
  obtain ⟨t', rfl⟩ := r2
  exact isub_int ⟨.int _, H, I.tok _, ⟨_, rfl⟩, q⟩
end

/-! ### while -/
section
variable {X : Cx} {pos : Pos}
/-- the invariant W with its measure -/
def tWhile (c : TT) (tb : TS) : TS := fun D σ H => ∃ W : Nat → St → Hp → Prop, (∃ m, W m σ H) ∧ ∀ m σ H, W m σ H →
  c σ H fun b H1 => if b = true then ∃ N : St → Hp → Prop, (∀ σ' H', N σ' H' → ∃ m', m' < m ∧ W m' σ' H') ∧ tb { D with nx := N, ct := N, bk := D.nx } σ H1 else D.nx σ H1
theorem ps_while {c : Expr} {body : List Stmt} {tc : TT} {tb : TS} (hp : PassesOwn (model X.prog X.w) X.A X.env X.xe) (hc : PT X c tc) (hb : PSs X body tb) : PS X (.While c body [] pos) (tWhile tc tb) := by
  intro pins s σ H D I h
  obtain ⟨W, ⟨m0, w0⟩, turn⟩ := h
  refine wpAny_While (codeAny_whileLoop (fun n s' => ∃ σ' H', Inv X pins σ' H' s' ∧ W n σ' H') ?_ m0 ⟨σ, H, I, w0⟩)
  rintro n s1 ⟨σ1, H1, I1, w1⟩
  refine wpAny_passesOwn hp (thn (hc pins s1 σ1 H1 _ I1 (turn n σ1 H1 w1)) fun b s2 ⟨H2, I2, q2⟩ => ?_)
  cases b with
  | true =>
    obtain ⟨N, hN, q2⟩ := q2
    rw [if_pos rfl]
    refine wpAny_passesOwn hp (thn (hb pins s2 σ1 H2 _ I2 q2) fun f s3 q3 => ?_)
    cases f with
    | next =>
      obtain ⟨σ3, H3, I3, n3⟩ := q3
      obtain ⟨m', hm, w3⟩ := hN σ3 H3 n3
      exact ⟨m', hm, σ3, H3, I3, w3⟩
    | cont =>
      obtain ⟨σ3, H3, I3, n3⟩ := q3
      obtain ⟨m', hm, w3⟩ := hN σ3 H3 n3
      exact ⟨m', hm, σ3, H3, I3, w3⟩
    | brk => exact q3
    | ret v => exact q3
  | false =>
    rw [if_neg Bool.false_ne_true]
    exact wpAny_execs_nil ⟨σ1, H2, I2, q2⟩
end

/-! ### what a loop or a comprehension walks -/
/-- at turn i: it yields x (the heap may grow), or it stops -/
structure It where
  go : Nat → Hp → Prop
  yld : Nat → Hp → V → Hp → Prop
  stop : Nat → Hp → Prop
/-- the iterator's own objects may turn: they are not the frame's, not pinned, younger than the entry (or a comprehension's own) -/
def FpOk (X : Cx) (pins : List (Addr × Obj)) (H : Hp) (b : Addr) : Prop :=
  H b = none ∧ b ≠ X.env.locals ∧ b ∉ X.fs ∧ (b ∈ X.ex ∨ X.s₀.heap.objs.size ≤ b) ∧ (∀ x c, X.env.cells.lookup x = some c → c ≠ b) ∧ ∀ p ∈ X.pn ++ pins, p.1 ≠ b
theorem Inv.fpOk {X : Cx} {pins : List (Addr × Obj)} {σ : St} {H H' : Hp} {s : Shared} {b : Addr} (I : Inv X pins σ H s) (hb : s.heap.objs.size ≤ b) (hn : H' b = none) : FpOk X pins H' b := by
  refine ⟨hn, Nat.ne_of_gt (Nat.lt_of_lt_of_le I.lt hb), I.nofs hb, .inr (Nat.le_trans I.sz hb), fun x c e z => ?_, fun p hp z => ?_⟩
  · obtain ⟨v, q⟩ := I.cell x c e
    exact absurd (Nat.lt_of_lt_of_le q.lt (by rw [z]; exact hb)) (Nat.lt_irrefl _)
  · exact absurd (Nat.lt_of_lt_of_le (Heap.lt_size (I.pin p hp).1) (by rw [z]; exact hb)) (Nat.lt_irrefl _)
structure Turn (P : Program) (w : World) (K : PySem.W.Frag) (tg : Expr) (J : It) (fp : List Addr) (it : Addr) (tn : Nat → Heap → Prop) : Prop where
  mem : it ∈ fp
  obj : ∀ i h, tn i h → ∀ b ∈ fp, ∃ o, h.get? b = some o ∧ ∀ v, o.data ≠ .cell v
  keep : ∀ i h h', tn i h → (∀ b ∈ fp, ∀ o, h.get? b = some o → h'.get? b = some o) → tn i h'
  item : ∀ (X : Cx), X.prog = P → X.w = w → X.K = K → X.calm = true → ∀ (i : Nat) (pins : List (Addr × Obj)) (s : Shared) (σ : St) (H : Hp) (E : Value → Shared → Prop), Inv X pins σ H s → (∀ b ∈ fp, FpOk X pins H b) → tn i s.heap → J.go i H →
    wpAny (model P w) X.A (pyNext (.ref it)) (fun r s1 => ∃ u, r = some u ∧
      wpAny (model P w) X.A (letOwnedTupleGo tg (.ref it) u) (fun _ s2 => ∃ x H', Inv X pins σ H' s2 ∧ RelV x u ∧ J.yld i H x H' ∧ tn (i + 1) s2.heap ∧ ∀ b ∈ fp, H' b = none) E s1) E s
  done : ∀ (X : Cx), X.prog = P → X.w = w → X.K = K → X.calm = true → ∀ (i : Nat) (pins : List (Addr × Obj)) (s : Shared) (σ : St) (H : Hp) (E : Value → Shared → Prop), Inv X pins σ H s → (∀ b ∈ fp, FpOk X pins H b) → tn i s.heap → J.stop i H →
    wpAny (model P w) X.A (pyNext (.ref it)) (fun r s1 => r = none ∧ Inv X pins σ H s1) E s
  self : ∀ (A : Around) (i : Nat) (s : Shared) (Q : Value → Shared → Prop) (E : Value → Shared → Prop), tn i s.heap → Q (.ref it) s → wpAny (model P w) A (pyIter (.ref it)) Q E s
abbrev TI := St → Hp → (It → Hp → Prop) → Prop
/-- an iterator has come -/
def PIE (X : Cx) (pins : List (Addr × Obj)) (σ : St) (tg : Expr) (R : It → Hp → Prop) (itv : Value) (s2 : Shared) : Prop :=
  ∃ (it : Addr) (fp : List Addr) (tn : Nat → Heap → Prop) (J : It) (H' : Hp), itv = .ref it ∧ Inv X pins σ H' s2 ∧ Turn X.prog X.w X.K tg J fp it tn ∧ tn 0 s2.heap ∧ (∀ b ∈ fp, FpOk X pins H' b) ∧ R J H'
def PI (X : Cx) (tg iter : Expr) (wi : TI) : Prop :=
  ∀ (pins : List (Addr × Obj)) (s : Shared) (σ : St) (H : Hp) (R : It → Hp → Prop), Inv X pins σ H s → wi σ H R →
    wpAny (model X.prog X.w) X.A (eval iter X.env) (fun v s1 => wpAny (model X.prog X.w) X.A (pyIter v) (PIE X pins σ tg R) X.xe s1) X.xe s

/-- the step ahead of the store is nothing for an iterator that keeps no tuple -/
theorem go_of {M : Model} {A : Around} {E : Value → Shared → Prop} {s : Shared} {tg : Expr} {it : Addr} {u : Value} {o : Obj} {n : String} {vs : Array Value} {Q : Unit → Shared → Prop} (ho : s.heap.get? it = some o) (hc : o.cls = .type n) (hd : o.data = .fields vs)
    (hn : ["enumerate", "zip", "dict_itemiterator", "dict_reverseitemiterator", "odict_iterator", "itertools.zip_longest", "itertools.pairwise"].contains n = false) (hQ : Q () s) : wpAny M A (letOwnedTupleGo tg (.ref it) u) Q E s := by
  unfold letOwnedTupleGo
  cases tg <;> first
    | exact wpAny_pure hQ
    | (cases u <;> first
        | exact wpAny_pure hQ
        | (refine wpAny_bind (wpAny_load ho ?_)
           rw [hc, hd]
           show wpAny M A (if (["enumerate", "zip", "dict_itemiterator", "dict_reverseitemiterator", "odict_iterator", "itertools.zip_longest", "itertools.pairwise"].contains n && vs[0]? == some (rawInt _)) = true then _ else _) Q E s
           rw [if_neg (by intro h; rw [hn, Bool.false_and] at h; cases h)]
           exact wpAny_pure hQ))

/-- the list at a, as it stands at each turn (a loop may append to it) -/
def Itl (K : PySem.W.Frag) (a : Addr) : It :=
  ⟨fun i H => ∃ xs x, SqL K H a xs ∧ xs[i]? = some x, fun i H x H' => H' = H ∧ ∀ xs, SqL K H a xs → xs[i]? = some x, fun i H => ∃ xs, SqL K H a xs ∧ xs.length ≤ i⟩
def Itt (K : PySem.W.Frag) (a : Addr) : It :=
  ⟨fun i H => ∃ xs x, SqT K H a xs ∧ xs[i]? = some x, fun i H x H' => H' = H ∧ ∀ xs, SqT K H a xs → xs[i]? = some x, fun i H => ∃ xs, SqT K H a xs ∧ xs.length ≤ i⟩
/-- lo, lo + 1, .. (n of them) -/
def Itr (lo : Int) (n : Nat) : It := ⟨fun i _ => i < n, fun i H x H' => H' = H ∧ x = .int (lo + i), fun i _ => n ≤ i⟩
theorem turn_list {P : Program} {w : World} {K : PySem.W.Frag} {tg : Expr} (a it : Addr) : Turn P w K tg (Itl K a) [it] it (fun i h => h.IsListIter it a i) where
  mem := by simp
  obj := fun i h st b hb => by
    have e : b = it := by simpa using hb
    subst e
    obtain ⟨o, e, c, d⟩ := st
    exact ⟨o, e, fun v z => by rw [d] at z; cases z⟩
  keep := fun i h h' st k => st.at fun o e => k it (by simp) o e
  item := by
    intro X hP hw hK hc i pins s σ H E I hf st hg
    subst hP hw hK
    obtain ⟨xs, x, hq, hx⟩ := hg
    obtain ⟨its, rv, p, hz⟩ := I.list hq
    obtain ⟨u, hu, ru⟩ := rv.get hx
    obtain ⟨f0, f1, f2, f3, f4, f5⟩ := hf it (by simp)
    refine wpAny_pyNext_list_item st p.isList (x := u) (by simpa using hu) fun h' st' sb => ?_
    have I1 : Inv X pins σ H { s with heap := h' } := I.turned (t' := s.toks) (fun b o hb e => (sb.2 b hb).trans e) f0 f1 f3 f4 f5
    obtain ⟨o, e, c, d⟩ := id st'
    exact ⟨u, rfl, go_of (s := { s with heap := h' }) e c d (by decide) ⟨x, H, I1, ru, ⟨rfl, fun ys hy => by rw [I.list_inj hy hq]; exact hx⟩, st', fun b hb => (hf b hb).1⟩⟩
  done := by
    intro X hP hw hK hc i pins s σ H E I hf st hg
    subst hP hw hK
    obtain ⟨xs, hq, hx⟩ := hg
    obtain ⟨its, rv, p, hz⟩ := I.list hq
    obtain ⟨f0, f1, f2, f3, f4, f5⟩ := hf it (by simp)
    have hl := rv.length
    exact wpAny_pyNext_list_end (I.ok.hd hc) st p.isList (by simp; omega) fun h' eb => ⟨rfl, I.turned (t' := s.toks) (fun b o hb e => eb b o hb e) f0 f1 f3 f4 f5⟩
  self := fun _ _ _ _ _ st h => wpAny_pyIter_listiter st h
theorem turn_tuple {P : Program} {w : World} {K : PySem.W.Frag} {tg : Expr} (a it : Addr) : Turn P w K tg (Itt K a) [it] it (fun i h => h.IsTupleIter it a i) where
  mem := by simp
  obj := fun i h st b hb => by
    have e : b = it := by simpa using hb
    subst e
    obtain ⟨o, e, c, d⟩ := st
    exact ⟨o, e, fun v z => by rw [d] at z; cases z⟩
  keep := fun i h h' st k => st.at fun o e => k it (by simp) o e
  item := by
    intro X hP hw hK hc i pins s σ H E I hf st hg
    subst hP hw hK
    obtain ⟨xs, x, hq, hx⟩ := hg
    obtain ⟨its, rv, p, hz⟩ := I.tuple hq
    obtain ⟨u, hu, ru⟩ := rv.get hx
    obtain ⟨f0, f1, f2, f3, f4, f5⟩ := hf it (by simp)
    refine wpAny_pyNext_tuple_item st (show s.heap.IsTuple a its.toArray from p) (x := u) (by simpa using hu) fun h' st' sb => ?_
    have I1 : Inv X pins σ H { s with heap := h' } := I.turned (t' := s.toks) (fun b o hb e => (sb.2 b hb).trans e) f0 f1 f3 f4 f5
    obtain ⟨o, e, c, d⟩ := id st'
    exact ⟨u, rfl, go_of (s := { s with heap := h' }) e c d (by decide) ⟨x, H, I1, ru, ⟨rfl, fun ys hy => by rw [I.tuple_inj hy hq]; exact hx⟩, st', fun b hb => (hf b hb).1⟩⟩
  done := by
    intro X hP hw hK hc i pins s σ H E I hf st hg
    subst hP hw hK
    obtain ⟨xs, hq, hx⟩ := hg
    obtain ⟨its, rv, p, hz⟩ := I.tuple hq
    obtain ⟨f0, f1, f2, f3, f4, f5⟩ := hf it (by simp)
    have hl := rv.length
    exact wpAny_pyNext_tuple_end (I.ok.hd hc) st (show s.heap.IsTuple a its.toArray from p) (by simp; omega) fun h' eb => ⟨rfl, I.turned (t' := s.toks) (fun b o hb e => eb b o hb e) f0 f1 f3 f4 f5⟩
  self := fun _ _ _ _ _ st h => wpAny_pyIter_tupleiter st h
theorem turn_range {P : Program} {w : World} {K : PySem.W.Frag} {tg : Expr} (it : Addr) (lo : Int) (n : Nat) : Turn P w K tg (Itr lo n) [it] it (fun i h => IsRangeIter h it (lo + (i : Nat) * 1) ((n : Int) - (i : Nat)) 1) where
  mem := by simp
  obj := fun i h st b hb => by
    have e : b = it := by simpa using hb
    subst e
    exact ⟨_, st, fun v z => by
      have z' : Data.fields _ = Data.cell v := z
      cases z'⟩
  keep := fun i h h' st k => k it (by simp) _ st
  item := by
    intro X hP hw hK hc i pins s σ H E I hf st hg
    subst hP hw hK
    obtain ⟨f0, f1, f2, f3, f4, f5⟩ := hf it (by simp)
    have W := Walks.range (prog := X.prog) (w := X.w) (I.ok.hd hc) it lo 1 n
    refine W.item i s _ _ hg st fun v h' tk hv st' kk => ?_
    obtain ⟨t, rfl⟩ := hv
    have I1 : Inv X pins σ H { s with heap := h', toks := tk } := I.turned (fun b o hb e => kk b o (by simpa using hb) e) f0 f1 f3 f4 f5
    refine ⟨_, rfl, go_of (s := { s with heap := h', toks := tk }) (n := "range_iterator") st' rfl rfl (by decide) ⟨.int (lo + i), H, I1, ⟨t, ?_⟩, ⟨rfl, rfl⟩, st', fun b hb => (hf b hb).1⟩⟩
    rw [Int.mul_one]
  done := by
    intro X hP hw hK hc i pins s σ H E I hf st hg
    subst hP hw hK
    obtain ⟨f0, f1, f2, f3, f4, f5⟩ := hf it (by simp)
    exact wpAny_pyNext_range_end (I.ok.hd hc) st (by have : n ≤ i := hg; omega) fun h' eb => ⟨rfl, I.turned (t' := s.toks) (fun b o hb e => eb b o hb e) f0 f1 f3 f4 f5⟩
  self := fun _ _ _ _ _ st h => wpAny_pyIter_rangeiter st h
end L2

namespace L2
open PySem PySem.Spec PyProof.Rows
section
variable {X : Cx} {tg : Expr}
def iList (K : PySem.W.Frag) (tl : TE) : TI := fun σ H R => tl σ H fun x H1 => ∃ a, x = .ref a ∧ (∃ xs, SqL K H1 a xs) ∧ R (Itl K a) H1
def iTup (K : PySem.W.Frag) (tl : TE) : TI := fun σ H R => tl σ H fun x H1 => ∃ a, x = .ref a ∧ (∃ xs, SqT K H1 a xs) ∧ R (Itt K a) H1
theorem pi_list {l : Expr} {tl : TE} (hl : PE X l tl) : PI X tg l (iList X.K tl) := by
  intro pins s σ H R I h
  refine thn (hl pins s σ H _ I h) fun v s1 ⟨x, H1, I1, r1, q1⟩ => ?_
  obtain ⟨a, e, ⟨xs, hq⟩, q⟩ := q1
  subst e
  cases r1
  obtain ⟨its, rv, p, hz⟩ := I1.list hq
  refine wpAny_pyIter_list p.isList ?_
  refine ⟨s1.heap.objs.size, [s1.heap.objs.size], _, _, H1, rfl, I1.kept (t' := s1.toks) fun b o e => Heap.get?_push_of_some _ e, turn_list a _, ⟨_, Heap.get?_push_size _ rfl, rfl, rfl⟩, fun b hb => ?_, q⟩
  have e : b = s1.heap.objs.size := by simpa using hb
  subst e
  exact I1.fpOk (Nat.le_refl _) (I1.hok.fresh (Nat.le_refl _))
theorem pi_tup {l : Expr} {tl : TE} (hl : PE X l tl) : PI X tg l (iTup X.K tl) := by
  intro pins s σ H R I h
  refine thn (hl pins s σ H _ I h) fun v s1 ⟨x, H1, I1, r1, q1⟩ => ?_
  obtain ⟨a, e, ⟨xs, hq⟩, q⟩ := q1
  subst e
  cases r1
  obtain ⟨its, rv, p, hz⟩ := I1.tuple hq
  refine wpAny_pyIter_tuple (show s1.heap.IsTuple a its.toArray from p) ?_
  refine ⟨s1.heap.objs.size, [s1.heap.objs.size], _, _, H1, rfl, I1.kept (t' := s1.toks) fun b o e => Heap.get?_push_of_some _ e, turn_tuple a _, ⟨_, Heap.get?_push_size _ rfl, rfl, rfl⟩, fun b hb => ?_, q⟩
  have e : b = s1.heap.objs.size := by simpa using hb
  subst e
  exact I1.fpOk (Nat.le_refl _) (I1.hok.fresh (Nat.le_refl _))
/-- a range object just made, walked -/
theorem range_it {pins : List (Addr × Obj)} {σ : St} {H : Hp} {s : Shared} {R : It → Hp → Prop} {E : Value → Shared → Prop} {lo hi : Int} {t u v : Tok} {tk : Nat} (I : Inv X pins σ H s) (h1 : -(2 ^ 62) ≤ lo) (h2 : lo < 2 ^ 62) (h3 : -(2 ^ 62) ≤ hi) (h4 : hi < 2 ^ 62)
    (q : R (Itr lo (hi - lo).toNat) H) : wpAny (model X.prog X.w) X.A (pyIter (.ref s.heap.objs.size)) (PIE X pins σ tg R) E { s with heap := s.heap.push { cls := .type "range", data := .fields #[.int lo t, .int hi u, .int 1 v] }, toks := tk } := by
  refine wpAny_pyIter_range (IsRange.new ..) (small_one h1 h2 h3 h4) ?_
  have I1 : Inv X pins σ H { s with heap := s.heap.push { cls := .type "range", data := .fields #[.int lo t, .int hi u, .int 1 v] }, toks := tk } := I.kept fun b o e => Heap.get?_push_of_some _ e
  refine ⟨(s.heap.push { cls := .type "range", data := .fields #[.int lo t, .int hi u, .int 1 v] }).objs.size, [(s.heap.push { cls := .type "range", data := .fields #[.int lo t, .int hi u, .int 1 v] }).objs.size], _, _, H, rfl,
    I1.kept (t' := tk) fun b o e => Heap.get?_push_of_some _ e, turn_range _ lo (hi - lo).toNat, ?_, fun b hb => ?_, q⟩
  · have e1 : lo + ((0 : Nat) : Int) * 1 = lo := by simp
    have e2 : (((hi - lo).toNat : Nat) : Int) - ((0 : Nat) : Int) = Builtin.Range.rangeSize lo hi 1 := by rw [rangeSize_one]; split <;> omega
    show IsRangeIter _ _ (lo + ((0 : Nat) : Int) * 1) ((((hi - lo).toNat : Nat) : Int) - ((0 : Nat) : Int)) 1
    rw [e1, e2]
    exact Heap.get?_push_size _ rfl
  · have e : b = (s.heap.push { cls := .type "range", data := .fields #[.int lo t, .int hi u, .int 1 v] }).objs.size := by simpa using hb
    subst e
    exact I1.fpOk (Nat.le_refl _) (I1.hok.fresh (Nat.le_refl _))
def iRng1 (ta : TA) : TI := fun σ H R => ta σ H fun vs H1 => ∃ j : Int, vs = [.int j] ∧ -(2 ^ 62) ≤ j ∧ j < 2 ^ 62 ∧ R (Itr 0 j.toNat) H1
def iRng2 (ta : TA) : TI := fun σ H R => ta σ H fun vs H1 => ∃ i j : Int, vs = [.int i, .int j] ∧ (-(2 ^ 62) ≤ i ∧ i < 2 ^ 62 ∧ -(2 ^ 62) ≤ j ∧ j < 2 ^ 62) ∧ R (Itr i (j - i).toNat) H1
theorem pi_range1 {a : Expr} {ta : TA} {p pos : Pos} (hg : Gl X "range") (hm : X.mg "range" = none) (ha : PA X [a] ta) (hs : starEach [a] X.env = [(false, eval a X.env)] := by rfl) : PI X tg (.Call (.Name "range" p) [a] [] pos) (iRng1 ta) := by
  intro pins s σ H R I h
  refine Call_ (ld_blt I hg hm boot_range (PyProof.Rows.callWith_type1 (thn (ha pos pins s σ H _ I h) fun us s1 ⟨vs, H1, I1, r1, q1⟩ => ?_) hs rfl))
  obtain ⟨j, e, q1, q2, q⟩ := q1
  subst e
  cases r1 with
  | cons r rr =>
    cases rr
    obtain ⟨t, rfl⟩ := r
    exact call_range_1 (range_it I1 (by omega) (by omega) q1 q2 (by simpa using q))
theorem pi_range2 {a b : Expr} {ta : TA} {p pos : Pos} (hg : Gl X "range") (hm : X.mg "range" = none) (ha : PA X [a, b] ta) (hs : starEach [a, b] X.env = [(false, eval a X.env), (false, eval b X.env)] := by rfl) (hs2 : starEach [b] X.env = [(false, eval b X.env)] := by rfl) :
    PI X tg (.Call (.Name "range" p) [a, b] [] pos) (iRng2 ta) := by
  intro pins s σ H R I h
  refine Call_ (ld_blt I hg hm boot_range (PyProof.Rows.callWith_type1 (thn (ha pos pins s σ H _ I h) fun us s1 ⟨vs, H1, I1, r1, q1⟩ => ?_) (by rw [hs, hs2]) (by rw [hs2]; rfl)))
  obtain ⟨i, j, e, ⟨q1, q2, q3, q4⟩, q⟩ := q1
  subst e
  cases r1 with
  | cons r rr =>
    cases rr with
    | cons r' rr =>
      cases rr
      obtain ⟨t, rfl⟩ := r
      obtain ⟨t', rfl⟩ := r'
      exact call_range_2 (range_it I1 q1 q2 q3 q4 q)

/-! ### for -/
/-- W: the invariant by the turn and a measure; N: what the body is to reach -/
def tFor (wi : TI) (g : TG) (tb : TS) : TS := fun D σ H => wi σ H fun J H1 => ∃ W : Nat → Nat → St → Hp → Prop, (∃ m, W 0 m σ H1) ∧ ∀ i m σ H, W i m σ H →
  (J.stop i H ∧ D.nx σ H) ∨ (J.go i H ∧ ∃ N : St → Hp → Prop, (∀ σ' H', N σ' H' → ∃ m', m' < m ∧ W (i + 1) m' σ' H') ∧ ∀ x H', J.yld i H x H' → g x σ H' fun σ2 H2 => tb { D with nx := N, ct := N, bk := D.nx } σ2 H2)
/-- the records at fp as they stand -/
def pinsAt (fp : List Addr) (h : Heap) : List (Addr × Obj) := fp.filterMap fun b => (h.get? b).map fun o => (b, o)
theorem mem_pinsAt {fp : List Addr} {h : Heap} {b : Addr} {o : Obj} (hb : b ∈ fp) (e : h.get? b = some o) : (b, o) ∈ pinsAt fp h := List.mem_filterMap.mpr ⟨b, hb, by rw [e]; rfl⟩
theorem of_pinsAt {fp : List Addr} {h : Heap} {p : Addr × Obj} (hp : p ∈ pinsAt fp h) : p.1 ∈ fp ∧ h.get? p.1 = some p.2 := by
  obtain ⟨b, hb, e⟩ := List.mem_filterMap.mp hp
  cases q : h.get? b with
  | none => rw [q] at e; cases e
  | some o =>
    rw [q] at e
    have e' : (b, o) = p := Option.some.inj e
    subst e'
    exact ⟨hb, q⟩
theorem Inv.pinned {pins : List (Addr × Obj)} {σ : St} {H : Hp} {s : Shared} {fp : List Addr} (I : Inv X pins σ H s) (hf : ∀ b ∈ fp, FpOk X pins H b) (ho : ∀ b ∈ fp, ∃ o, s.heap.get? b = some o ∧ ∀ v, o.data ≠ .cell v) : Inv X (pins ++ pinsAt fp s.heap) σ H s :=
  I.pins_of fun p hp => (List.mem_append.mp hp).elim (fun z => I.pin p (List.mem_append_right _ z)) fun z => by
    obtain ⟨hb, e⟩ := of_pinsAt z
    obtain ⟨f0, f1, f2, _⟩ := hf p.1 hb
    obtain ⟨o, e', d⟩ := ho p.1 hb
    rw [e] at e'; cases e'
    exact ⟨e, f0, f1, f2, d⟩
theorem Inv.unpinned {pins pl : List (Addr × Obj)} {σ : St} {H : Hp} {s : Shared} (I : Inv X (pins ++ pl) σ H s) : Inv X pins σ H s := I.pins_of fun p hp => I.pin p (List.mem_append_right _ (List.mem_append_left _ hp))
theorem ps_for {iter : Expr} {body : List Stmt} {wi : TI} {g : TG} {tb : TS} {pos : Pos} (hp : PassesOwn (model X.prog X.w) X.A X.env X.xe) (hc : X.calm = true) (hi : PI X tg iter wi) (hg : PG X tg g) (hb : PSs X body tb)
    (hs : ∀ x, foldedSetIterable iter X.env x = pure x := by intro _; rfl) : PS X (.For tg iter body [] pos) (tFor wi g tb) := by
  intro pins s σ H D I h
  refine wpAny_For (thn (hi pins s σ H _ I h) fun v s1 h1 => thn h1 fun itv s2 h2 => ?_) hs
  obtain ⟨it, fp, tn, J, H2, e, I2, T, st2, f2, W, ⟨m0, w0⟩, turn⟩ := h2
  subst e
  -- what stays true of the iterator's objects through the loop
  have stat : ∀ {H' : Hp}, (∀ b ∈ fp, H' b = none) → ∀ b ∈ fp, FpOk X pins H' b := fun hn b hb => ⟨hn b hb, (f2 b hb).2⟩
  refine codeAny_forLoop_any (fun n s' => ∃ i σ' H', Inv X pins σ' H' s' ∧ tn i s'.heap ∧ (∀ b ∈ fp, H' b = none) ∧ W i n σ' H') ?_ m0 ⟨0, σ, H2, I2, st2, fun b hb => (f2 b hb).1, w0⟩
  rintro n s3 ⟨i, σ3, H3, I3, st3, fr3, w3⟩
  rcases turn i n σ3 H3 w3 with ⟨stop, qn⟩ | ⟨go, N, hN, step⟩
  · refine wpAny_passesOwn hp (thn (T.done X rfl rfl rfl hc i pins s3 σ3 H3 X.xe I3 (stat fr3) st3 stop) fun r s4 ⟨hr, I4⟩ => ?_)
    subst hr
    exact wpAny_execs_nil ⟨σ3, H3, I4, qn⟩
  · refine wpAny_passesOwn hp (thn (T.item X rfl rfl rfl hc i pins s3 σ3 H3 X.xe I3 (stat fr3) st3 go) fun r s4 ⟨u, hr, h4⟩ => ?_)
    subst hr
    refine wpAny_passesOwn hp (thn h4 fun _ s5 ⟨x, H5, I5, r5, y5, st5, fr5⟩ => ?_)
    have I5' := I5.pinned (stat fr5) (T.obj _ _ st5)
    refine wpAny_passesOwn hp (thn (hg _ s5 σ3 H5 x u _ I5' r5 (step x H5 y5)) fun _ s6 ⟨σ6, H6, I6, q6⟩ => ?_)
    refine wpAny_passesOwn hp (thn (hb _ s6 σ6 H6 _ I6 q6) fun f s7 q7 => ?_)
    have again : ∀ {σ7 : St} {H7 : Hp}, Inv X (pins ++ pinsAt fp s5.heap) σ7 H7 s7 → N σ7 H7 → ∃ m, m < n ∧ ∃ i σ' H', Inv X pins σ' H' s7 ∧ tn i s7.heap ∧ (∀ b ∈ fp, H' b = none) ∧ W i m σ' H' := fun {σ7 H7} I7 n7 => by
      obtain ⟨m', hm, w7⟩ := hN σ7 H7 n7
      refine ⟨m', hm, i + 1, σ7, H7, I7.unpinned, T.keep _ _ _ st5 fun b hb o e => (I7.pin (b, o) (List.mem_append_right _ (List.mem_append_right _ (mem_pinsAt hb e)))).1, fun b hb => ?_, w7⟩
      obtain ⟨o, e, d⟩ := T.obj _ _ st5 b hb
      exact (I7.pin (b, o) (List.mem_append_right _ (List.mem_append_right _ (mem_pinsAt hb e)))).2.1
    cases f with
    | next => obtain ⟨σ7, H7, I7, n7⟩ := q7; exact again I7 n7
    | cont => obtain ⟨σ7, H7, I7, n7⟩ := q7; exact again I7 n7
    | brk => obtain ⟨σ7, H7, I7, q7⟩ := q7; exact ⟨σ7, H7, I7.unpinned, q7⟩
    | ret v => obtain ⟨x7, σ7, H7, I7, r7, q7⟩ := q7; exact ⟨x7, σ7, H7, I7.unpinned, r7, q7⟩
end

/-! ### the forms one uses -/
/-- over a list that the body leaves as it is -/
theorem for_list {K : PySem.W.Frag} {a : Addr} {xs : List V} {g : TG} {tb : TS} {D : Ends} {σ : St} {H : Hp} (Pv : Nat → St → Hp → Prop) (h0 : Pv 0 σ H) (hl : ∀ i σ H, i ≤ xs.length → Pv i σ H → SqL K H a xs)
    (hs : ∀ i x σ H, xs[i]? = some x → Pv i σ H → g x σ H fun σ2 H2 => tb { D with nx := Pv (i + 1), ct := Pv (i + 1), bk := D.nx } σ2 H2) (hd : ∀ σ H, Pv xs.length σ H → D.nx σ H) :
    ∃ W : Nat → Nat → St → Hp → Prop, (∃ m, W 0 m σ H) ∧ ∀ i m σ H, W i m σ H →
      ((Itl K a).stop i H ∧ D.nx σ H) ∨ ((Itl K a).go i H ∧ ∃ N : St → Hp → Prop, (∀ σ' H', N σ' H' → ∃ m', m' < m ∧ W (i + 1) m' σ' H') ∧ ∀ x H', (Itl K a).yld i H x H' → g x σ H' fun σ2 H2 => tb { D with nx := N, ct := N, bk := D.nx } σ2 H2) := by
  refine ⟨fun i m σ H => m = xs.length - i ∧ i ≤ xs.length ∧ Pv i σ H, ⟨xs.length, by simp, Nat.zero_le _, h0⟩, ?_⟩
  rintro i m σ H ⟨rfl, hi, p⟩
  have q := hl i σ H hi p
  by_cases hlt : i < xs.length
  · refine .inr ⟨⟨xs, xs[i], q, by simp [hlt]⟩, Pv (i + 1), fun σ' H' p' => ⟨xs.length - (i + 1), by omega, rfl, hlt, p'⟩, fun x H' y => ?_⟩
    obtain ⟨e, y⟩ := y
    subst e
    exact hs i x σ _ (y xs q) p
  · have e : i = xs.length := by omega
    subst e
    exact .inl ⟨⟨xs, q, Nat.le_refl _⟩, hd σ H p⟩
theorem for_tup {K : PySem.W.Frag} {a : Addr} {xs : List V} {g : TG} {tb : TS} {D : Ends} {σ : St} {H : Hp} (Pv : Nat → St → Hp → Prop) (h0 : Pv 0 σ H) (hl : ∀ i σ H, i ≤ xs.length → Pv i σ H → SqT K H a xs)
    (hs : ∀ i x σ H, xs[i]? = some x → Pv i σ H → g x σ H fun σ2 H2 => tb { D with nx := Pv (i + 1), ct := Pv (i + 1), bk := D.nx } σ2 H2) (hd : ∀ σ H, Pv xs.length σ H → D.nx σ H) :
    ∃ W : Nat → Nat → St → Hp → Prop, (∃ m, W 0 m σ H) ∧ ∀ i m σ H, W i m σ H →
      ((Itt K a).stop i H ∧ D.nx σ H) ∨ ((Itt K a).go i H ∧ ∃ N : St → Hp → Prop, (∀ σ' H', N σ' H' → ∃ m', m' < m ∧ W (i + 1) m' σ' H') ∧ ∀ x H', (Itt K a).yld i H x H' → g x σ H' fun σ2 H2 => tb { D with nx := N, ct := N, bk := D.nx } σ2 H2) := by
  refine ⟨fun i m σ H => m = xs.length - i ∧ i ≤ xs.length ∧ Pv i σ H, ⟨xs.length, by simp, Nat.zero_le _, h0⟩, ?_⟩
  rintro i m σ H ⟨rfl, hi, p⟩
  have q := hl i σ H hi p
  by_cases hlt : i < xs.length
  · refine .inr ⟨⟨xs, xs[i], q, by simp [hlt]⟩, Pv (i + 1), fun σ' H' p' => ⟨xs.length - (i + 1), by omega, rfl, hlt, p'⟩, fun x H' y => ?_⟩
    obtain ⟨e, y⟩ := y
    subst e
    exact hs i x σ _ (y xs q) p
  · have e : i = xs.length := by omega
    subst e
    exact .inl ⟨⟨xs, q, Nat.le_refl _⟩, hd σ H p⟩
theorem for_range {lo : Int} {n : Nat} {g : TG} {tb : TS} {D : Ends} {σ : St} {H : Hp} (Pv : Nat → St → Hp → Prop) (h0 : Pv 0 σ H)
    (hs : ∀ i σ H, i < n → Pv i σ H → g (.int (lo + i)) σ H fun σ2 H2 => tb { D with nx := Pv (i + 1), ct := Pv (i + 1), bk := D.nx } σ2 H2) (hd : ∀ σ H, Pv n σ H → D.nx σ H) :
    ∃ W : Nat → Nat → St → Hp → Prop, (∃ m, W 0 m σ H) ∧ ∀ i m σ H, W i m σ H →
      ((Itr lo n).stop i H ∧ D.nx σ H) ∨ ((Itr lo n).go i H ∧ ∃ N : St → Hp → Prop, (∀ σ' H', N σ' H' → ∃ m', m' < m ∧ W (i + 1) m' σ' H') ∧ ∀ x H', (Itr lo n).yld i H x H' → g x σ H' fun σ2 H2 => tb { D with nx := N, ct := N, bk := D.nx } σ2 H2) := by
  refine ⟨fun i m σ H => m = n - i ∧ i ≤ n ∧ Pv i σ H, ⟨n, by simp, Nat.zero_le _, h0⟩, ?_⟩
  rintro i m σ H ⟨rfl, hi, p⟩
  by_cases hlt : i < n
  · refine .inr ⟨hlt, Pv (i + 1), fun σ' H' p' => ⟨n - (i + 1), by omega, rfl, hlt, p'⟩, fun x H' y => ?_⟩
    obtain ⟨e, y⟩ := y
    subst e y
    exact hs i σ _ hlt p
  · have e : i = n := by omega
    subst e
    exact .inl ⟨Nat.le_refl _, hd σ H p⟩
/-- while, by a word and a measure of the state -/
theorem while_by {c : TT} {tb : TS} {D : Ends} {σ : St} {H : Hp} (Pv : St → Hp → Prop) (μ : St → Hp → Nat) (h0 : Pv σ H)
    (hs : ∀ σ H, Pv σ H → c σ H fun b H1 => if b = true then tb { D with nx := fun σ' H' => Pv σ' H' ∧ μ σ' H' < μ σ H, ct := fun σ' H' => Pv σ' H' ∧ μ σ' H' < μ σ H, bk := D.nx } σ H1 else D.nx σ H1)
    (mono : ∀ σ H Q Q', (∀ b H1, Q b H1 → Q' b H1) → c σ H Q → c σ H Q') : tWhile c tb D σ H := by
  refine ⟨fun m σ H => m = μ σ H ∧ Pv σ H, ⟨_, rfl, h0⟩, ?_⟩
  rintro m σ H ⟨rfl, p⟩
  refine mono σ H _ _ (fun b H1 q => ?_) (hs σ H p)
  cases b with
  | true => exact ⟨_, fun σ' H' ⟨p', l⟩ => ⟨_, l, rfl, p'⟩, q⟩
  | false => exact q
end L2

namespace L2
open PySem PySem.Spec PyProof.Rows

abbrev R2 := V → V → Hp → VK → Prop
/-- a two-place operation on values: f is binaryOp op, inplaceOp op or compareOp op -/
def OpR (X : Cx) (f : Value → Value → Sem Value) (r : R2) : Prop :=
  ∀ (pins : List (Addr × Obj)) (s : Shared) (σ : St) (H : Hp) (x y : V) (v u : Value) (Q : VK), Inv X pins σ H s → RelV x v → RelV y u → r x y H Q →
    wpAny (model X.prog X.w) X.A (f v u) (EP X pins σ Q) X.xe s
/-- a one-place operation -/
def UnR (X : Cx) (f : Value → Sem Value) (r : V → Hp → VK → Prop) : Prop :=
  ∀ (pins : List (Addr × Obj)) (s : Shared) (σ : St) (H : Hp) (x : V) (v : Value) (Q : VK), Inv X pins σ H s → RelV x v → r x H Q →
    wpAny (model X.prog X.w) X.A (f v) (EP X pins σ Q) X.xe s
/-- a call of a value that is known (a builtin, a type) with values -/
def CallR (X : Cx) (f : Value) (r : List V → Hp → VK → Prop) : Prop :=
  ∀ (pins : List (Addr × Obj)) (s : Shared) (σ : St) (H : Hp) (xs : List V) (us : List Value) (Q : VK), Inv X pins σ H s → Vals xs us → r xs H Q →
    wpAny (model X.prog X.w) X.A (call f us) (EP X pins σ Q) X.xe s
/-- a value's truth -/
def TruR (X : Cx) (r : V → Hp → (Bool → Hp → Prop) → Prop) : Prop :=
  ∀ (pins : List (Addr × Obj)) (s : Shared) (σ : St) (H : Hp) (x : V) (v : Value) (Q : Bool → Hp → Prop), Inv X pins σ H s → RelV x v → r x H Q →
    wpAny (model X.prog X.w) X.A (truthy v) (TP X pins σ Q) X.xe s

def tOp (r : R2) (ta tb : TE) : TE := fun σ H Q => ta σ H fun x H1 => tb σ H1 fun y H2 => r x y H2 Q
def tUn (r : V → Hp → VK → Prop) (ta : TE) : TE := fun σ H Q => ta σ H fun x H1 => r x H1 Q
/-- ints in, under C, and a value out -/
def rI (C : Int → Int → Prop) (g : Int → Int → V) : R2 := fun x y H Q => ∃ i j, x = .int i ∧ y = .int j ∧ C i j ∧ Q (g i j) H
def rI0 (g : Int → Int → V) : R2 := fun x y H Q => ∃ i j, x = .int i ∧ y = .int j ∧ Q (g i j) H
def rU (g : Int → V) : V → Hp → VK → Prop := fun x H Q => ∃ i, x = .int i ∧ Q (g i) H

section
variable {X : Cx} {a b c : Expr} {ta tb tc : TE} {pos : Pos}

theorem binT (ha : PE X a ta) (hb : PE X b tb) {pins : List (Addr × Obj)} {s : Shared} {σ : St} {H : Hp} {R : V → V → Hp → Prop} (I : Inv X pins σ H s)
    (h : ta σ H fun x H1 => tb σ H1 fun y H2 => R x y H2) {Q : Value → Shared → Prop} {f : Value → Value → Sem Value}
    (hf : ∀ v u s2 x y H2, Inv X pins σ H2 s2 → RelV x v → RelV y u → R x y H2 → wpAny (model X.prog X.w) X.A (f v u) Q X.xe s2) :
    wpAny (model X.prog X.w) X.A (eval a X.env) (fun v s₁ => wpAny (model X.prog X.w) X.A (eval b X.env) (fun u s₂ => wpAny (model X.prog X.w) X.A (f v u) Q X.xe s₂) X.xe s₁) X.xe s := by
  refine thn (ha pins s σ H _ I h) fun v s1 ⟨x, H1, I1, r1, q1⟩ => ?_
  refine thn (hb pins s1 σ H1 _ I1 q1) fun u s2 ⟨y, H2, I2, r2, q2⟩ => ?_
  exact hf v u s2 x y H2 I2 r1 r2 q2

theorem pe_op {op : Operator} {r : R2} (ho : OpR X (binaryOp op) r) (ha : PE X a ta) (hb : PE X b tb) : PE X (.BinOp a op b pos) (tOp r ta tb) := by
  intro pins s σ H Q I h
  exact wpAny_BinOp (binT ha hb I h fun v u s2 x y H2 I2 rx ry q => ho pins s2 σ H2 x y v u Q I2 rx ry q)
theorem pe_un {op : UnaryOp} {r : V → Hp → VK → Prop} (ho : UnR X (unaryOp op) r) (ha : PE X a ta) : PE X (.UnaryOp op a pos) (tUn r ta) := by
  intro pins s σ H Q I h
  exact UnaryOp_ (thn (ha pins s σ H _ I h) fun v s1 ⟨x, H1, I1, r1, q1⟩ => ho pins s1 σ H1 x v Q I1 r1 q1)
/-- a op= e at a name: the name's slot i -/
theorem augR {op : Operator} {r : R2} (ho : OpR X (inplaceOp op) r) {pins : List (Addr × Obj)} {s : Shared} {σ : St} {H : Hp} {x y : V} {v u : Value} {Q : VK} (I : Inv X pins σ H s)
    (rx : RelV x v) (ry : RelV y u) (q : r x y H Q) : wpAny (model X.prog X.w) X.A (inplaceOp op v u) (EP X pins σ Q) X.xe s := ho pins s σ H x y v u Q I rx ry q

/-! ### ints -/
theorem opI {f : Value → Value → Sem Value} {C : Int → Int → Prop} {g : Int → Int → Int}
    (rule : ∀ (i j : Int) (t u : Tok) (s : Shared) (Q : Value → Shared → Prop) (E : Value → Shared → Prop), C i j → Q (.int (g i j) s.toks) { s with toks := s.toks + 1 } → wpAny (model X.prog X.w) X.A (f (.int i t) (.int j u)) Q E s) :
    OpR X f (rI C fun i j => .int (g i j)) := by
  intro pins s σ H x y v u Q I rx ry h
  obtain ⟨i, j, rfl, rfl, hc, q⟩ := h
  obtain ⟨t, rfl⟩ := rx
  obtain ⟨t', rfl⟩ := ry
  exact rule i j t t' s _ _ hc ⟨.int (g i j), H, I.tok _, ⟨_, rfl⟩, q⟩
theorem opI0 {f : Value → Value → Sem Value} {g : Int → Int → Int}
    (rule : ∀ (i j : Int) (t u : Tok) (s : Shared) (Q : Value → Shared → Prop) (E : Value → Shared → Prop), Q (.int (g i j) s.toks) { s with toks := s.toks + 1 } → wpAny (model X.prog X.w) X.A (f (.int i t) (.int j u)) Q E s) :
    OpR X f (rI0 fun i j => .int (g i j)) := by
  intro pins s σ H x y v u Q I rx ry h
  obtain ⟨i, j, rfl, rfl, q⟩ := h
  obtain ⟨t, rfl⟩ := rx
  obtain ⟨t', rfl⟩ := ry
  exact rule i j t t' s _ _ ⟨.int (g i j), H, I.tok _, ⟨_, rfl⟩, q⟩
theorem opB0 {f : Value → Value → Sem Value} {g : Int → Int → Bool}
    (rule : ∀ (i j : Int) (t u : Tok) (s : Shared) (Q : Value → Shared → Prop) (E : Value → Shared → Prop), Q (.bool (g i j)) s → wpAny (model X.prog X.w) X.A (f (.int i t) (.int j u)) Q E s) :
    OpR X f (rI0 fun i j => .bl (g i j)) := by
  intro pins s σ H x y v u Q I rx ry h
  obtain ⟨i, j, rfl, rfl, q⟩ := h
  obtain ⟨t, rfl⟩ := rx
  obtain ⟨t', rfl⟩ := ry
  exact rule i j t t' s _ _ ⟨.bl (g i j), H, I, rfl, q⟩

def CDiv (i j : Int) : Prop := 0 < j ∧ j < 1073741824
def CDivN (i j : Int) : Prop := j ≠ 0 ∧ j.natAbs < 1073741824
def CPow (i j : Int) : Prop := 0 ≤ j ∧ j ≤ 1000000 ∧ i.natAbs < 2 ^ 64
def CMul (i j : Int) : Prop := (-(2 ^ 64) < i ∧ i < 2 ^ 64) ∨ (-(2 ^ 64) < j ∧ j < 2 ^ 64)
theorem CMul.ok {i j : Int} (h : CMul i j) : IntMulOk i j := by
  rcases h with ⟨h1, h2⟩ | ⟨h1, h2⟩
  · exact .of_left (intBits_le_64 h1 h2)
  · exact .of_right (intBits_le_64 h1 h2)
theorem two_pow_nn (k : Nat) : (0 : Int) ≤ 2 ^ k := by
  rw [two_pow_cast]
  exact Int.natCast_nonneg _

theorem op_add : OpR X (binaryOp .Add) (rI0 fun i j => .int (i + j)) := opI0 fun _ _ _ _ _ _ _ q => add_int q
theorem op_sub : OpR X (binaryOp .Sub) (rI0 fun i j => .int (i - j)) := opI0 fun _ _ _ _ _ _ _ q => sub_int q
theorem op_mul : OpR X (binaryOp .Mult) (rI CMul fun i j => .int (i * j)) := opI fun _ _ _ _ _ _ _ hc q => mul_int q hc.ok
/-- // by a positive divisor -/
theorem op_fdiv : OpR X (binaryOp .FloorDiv) (rI CDiv fun i j => .int (i / j)) := opI fun i j _ _ _ _ _ hc q => by
  have h1 : (0 : Int) < j := hc.1
  have h2 : j < 1073741824 := hc.2
  exact floordiv_int (by omega) (by rw [Int.fdiv_eq_ediv_of_nonneg i (by omega)]; exact q) (.inl (PyProof.noPylong_small (by omega)))
theorem op_fdivN : OpR X (binaryOp .FloorDiv) (rI CDivN fun i j => .int (i.fdiv j)) := opI fun _ _ _ _ _ _ _ hc q => floordiv_int hc.1 q (.inl (PyProof.noPylong_small hc.2))
/-- % by a positive divisor of any size -/
theorem op_mod : OpR X (binaryOp .Mod) (rI (fun _ j => 0 < j) fun i j => .int (i % j)) := opI fun i j _ _ _ _ _ hc q => by
  have h1 : (0 : Int) < j := hc
  exact mod_int' (by omega) (by rw [Int.fmod_eq_emod_of_nonneg i (by omega)]; exact q)
theorem op_modN : OpR X (binaryOp .Mod) (rI (fun _ j => j ≠ 0) fun i j => .int (i.fmod j)) := opI fun _ _ _ _ _ _ _ hc q => mod_int' hc q
theorem op_pow : OpR X (binaryOp .Pow) (rI CPow fun i j => .int (i ^ j.toNat)) := opI fun _ _ _ _ _ _ _ hc q => pow_int_small hc.1 hc.2.1 hc.2.2 q
theorem op_shl : OpR X (binaryOp .LShift) (rI CPow fun i j => .int (i * 2 ^ j.toNat)) := opI fun _ _ _ _ _ _ _ hc q => lshift_int_small hc.1 hc.2.1 hc.2.2 q
theorem op_shr : OpR X (binaryOp .RShift) (rI (fun _ j => 0 ≤ j) fun i j => .int (i / 2 ^ j.toNat)) := opI fun i j _ _ _ _ _ hc q =>
  rshift_int hc (by rw [Int.fdiv_eq_ediv_of_nonneg i (two_pow_nn _)]; exact q)
theorem op_and : OpR X (binaryOp .BitAnd) (rI0 fun i j => .int (Builtin.bitAnd i j)) := opI0 fun _ _ _ _ _ _ _ q => and_int q
theorem op_or : OpR X (binaryOp .BitOr) (rI0 fun i j => .int (Builtin.bitOr i j)) := opI0 fun _ _ _ _ _ _ _ q => or_int q
theorem op_xor : OpR X (binaryOp .BitXor) (rI0 fun i j => .int (Builtin.bitXor i j)) := opI0 fun _ _ _ _ _ _ _ q => xor_int q

theorem iop_add : OpR X (inplaceOp .Add) (rI0 fun i j => .int (i + j)) := opI0 fun _ _ _ _ _ _ _ q => iadd_int q
theorem iop_sub : OpR X (inplaceOp .Sub) (rI0 fun i j => .int (i - j)) := opI0 fun _ _ _ _ _ _ _ q => isub_int q
theorem iop_mul : OpR X (inplaceOp .Mult) (rI CMul fun i j => .int (i * j)) := opI fun _ _ _ _ _ _ _ hc q => imul_int q hc.ok
theorem iop_fdiv : OpR X (inplaceOp .FloorDiv) (rI CDiv fun i j => .int (i / j)) := opI fun i j _ _ _ _ _ hc q => by
  have h1 : (0 : Int) < j := hc.1
  have h2 : j < 1073741824 := hc.2
  exact ifloordiv_int (by omega) (by rw [Int.fdiv_eq_ediv_of_nonneg i (by omega)]; exact q) (.inl (PyProof.noPylong_small (by omega)))
theorem iop_mod : OpR X (inplaceOp .Mod) (rI (fun _ j => 0 < j) fun i j => .int (i % j)) := opI fun i j _ _ _ _ _ hc q => by
  have h1 : (0 : Int) < j := hc
  exact imod_int (by omega) (by rw [Int.fmod_eq_emod_of_nonneg i (by omega)]; exact q)
theorem iop_shl : OpR X (inplaceOp .LShift) (rI CPow fun i j => .int (i * 2 ^ j.toNat)) := opI fun _ _ _ _ _ _ _ hc q => ilshift_int_small hc.1 hc.2.1 hc.2.2 q
theorem iop_shr : OpR X (inplaceOp .RShift) (rI (fun _ j => 0 ≤ j) fun i j => .int (i / 2 ^ j.toNat)) := opI fun i j _ _ _ _ _ hc q =>
  irshift_int hc (by rw [Int.fdiv_eq_ediv_of_nonneg i (two_pow_nn _)]; exact q)
theorem iop_and : OpR X (inplaceOp .BitAnd) (rI0 fun i j => .int (Builtin.bitAnd i j)) := opI0 fun _ _ _ _ _ _ _ q => iand_int q
theorem iop_or : OpR X (inplaceOp .BitOr) (rI0 fun i j => .int (Builtin.bitOr i j)) := opI0 fun _ _ _ _ _ _ _ q => ior_int q
theorem iop_xor : OpR X (inplaceOp .BitXor) (rI0 fun i j => .int (Builtin.bitXor i j)) := opI0 fun _ _ _ _ _ _ _ q => ixor_int q

theorem unI {f : Value → Sem Value} {g : Int → Int}
    (rule : ∀ (i : Int) (t : Tok) (s : Shared) (Q : Value → Shared → Prop) (E : Value → Shared → Prop), Q (.int (g i) s.toks) { s with toks := s.toks + 1 } → wpAny (model X.prog X.w) X.A (f (.int i t)) Q E s) :
    UnR X f (rU fun i => .int (g i)) := by
  intro pins s σ H x v Q I rx h
  obtain ⟨i, rfl, q⟩ := h
  obtain ⟨t, rfl⟩ := rx
  exact rule i t s _ _ ⟨.int (g i), H, I.tok _, ⟨_, rfl⟩, q⟩
theorem un_neg : UnR X (unaryOp .USub) (rU fun i => .int (-i)) := unI fun _ _ _ _ _ q => neg_int q
theorem un_inv : UnR X (unaryOp .Invert) (rU fun i => .int (Builtin.bitNot i)) := unI fun _ _ _ _ _ q => invert_int q

/-! ### bools among ints: n += (a < b) -/
theorem op_add_ib : OpR X (binaryOp .Add) (fun x y H Q => ∃ i k, x = .int i ∧ y = .bl k ∧ Q (.int (i + b2i k)) H) := by
  intro pins s σ H x y v u Q I rx ry h
  obtain ⟨i, k, rfl, rfl, q⟩ := h
  obtain ⟨t, rfl⟩ := rx
  cases ry
  exact add_int_bool ⟨.int (i + b2i k), H, I.tok _, ⟨_, rfl⟩, q⟩
end

/-! ### comparisons -/
/-- the scalars that == tells apart as data does -/
def scal : V → V → Bool
  | .non, .non => true | .non, .int _ => true | .int _, .non => true | .non, .bl _ => true | .bl _, .non => true | .non, .str _ => true | .str _, .non => true
  | .int _, .int _ => true | .bl _, .bl _ => true | .str _, .str _ => true | .byt _, .byt _ => true
  | .int _, .str _ => true | .str _, .int _ => true | .bl _, .str _ => true | .str _, .bl _ => true
  | _, _ => false
def rEq : R2 := fun x y H Q => scal x y = true ∧ Q (.bl (decide (x = y))) H
def rNe : R2 := fun x y H Q => scal x y = true ∧ Q (.bl (!decide (x = y))) H

theorem dec_int {i j : Int} : decide (V.int i = V.int j) = (i == j) := by
  rw [Bool.eq_iff_iff]
  simp
theorem dec_bl {i j : Bool} : decide (V.bl i = V.bl j) = (i == j) := by
  rw [Bool.eq_iff_iff]
  simp
theorem dec_str {i j : Str} : decide (V.str i = V.str j) = (i == j) := by
  rw [Bool.eq_iff_iff]
  simp
theorem dec_byt {i j : Array UInt8} : decide (V.byt i = V.byt j) = (i.toList == j.toList) := by
  rw [Bool.eq_iff_iff]
  cases i
  cases j
  simp

section
variable {X : Cx} {a b c : Expr} {ta tb tc : TE} {pos : Pos}
theorem fin_bl {pins : List (Addr × Obj)} {σ : St} {H : Hp} {s : Shared} {Q : VK} {k k' : Bool} (I : Inv X pins σ H s) (q : Q (.bl k) H) (e : k = k') : EP X pins σ Q (.bool k') s := by
  subst e
  exact ⟨.bl k, H, I, rfl, q⟩
theorem op_eq : OpR X (compareOp .Eq) rEq := by
  intro pins s σ H x y v u Q I rx ry h
  obtain ⟨hs, q⟩ := h
  cases x with
  | non =>
    cases rx
    cases y with
    | non => cases ry; exact PySem.EqNone.eq_none_none (fin_bl I q (by simp))
    | bl j => cases ry; exact PySem.EqNone.eq_none_bool (fin_bl I q (by simp))
    | int j => obtain ⟨t', rfl⟩ := ry; exact PySem.EqNone.eq_none_int (fin_bl I q (by simp))
    | str j => obtain ⟨t', rfl⟩ := ry; exact PySem.EqNone.eq_none_str (fin_bl I q (by simp))
    | _ => exact absurd (show false = true from hs) Bool.false_ne_true
  | bl i =>
    cases rx
    cases y with
    | non => cases ry; exact PySem.EqNone.eq_bool_none (fin_bl I q (by simp))
    | bl j => cases ry; exact eq_bool (fin_bl I q dec_bl)
    | str j => obtain ⟨t', rfl⟩ := ry; exact PySem.EqMixed.eq_bool_str (fin_bl I q (by simp))
    | _ => exact absurd (show false = true from hs) Bool.false_ne_true
  | int i =>
    obtain ⟨t, rfl⟩ := rx
    cases y with
    | non => cases ry; exact PySem.EqNone.eq_int_none (fin_bl I q (by simp))
    | int j => obtain ⟨t', rfl⟩ := ry; exact eq_int (fin_bl I q dec_int)
    | str j => obtain ⟨t', rfl⟩ := ry; exact PySem.EqMixed.eq_int_str (fin_bl I q (by simp))
    | _ => exact absurd (show false = true from hs) Bool.false_ne_true
  | str i =>
    obtain ⟨t, rfl⟩ := rx
    cases y with
    | non => cases ry; exact PySem.EqNone.eq_str_none (fin_bl I q (by simp))
    | bl j => cases ry; exact PySem.EqMixed.eq_str_bool (fin_bl I q (by simp))
    | int j => obtain ⟨t', rfl⟩ := ry; exact PySem.EqMixed.eq_str_int (fin_bl I q (by simp))
    | str j => obtain ⟨t', rfl⟩ := ry; exact eq_str (fin_bl I q dec_str)
    | _ => exact absurd (show false = true from hs) Bool.false_ne_true
  | byt i =>
    obtain ⟨t, rfl⟩ := rx
    cases y with
    | byt j => obtain ⟨t', rfl⟩ := ry; exact PySem.W.eq_bytes (fin_bl I q dec_byt)
    | _ => exact absurd (show false = true from hs) Bool.false_ne_true
  | _ => cases y <;> exact absurd (show false = true from hs) Bool.false_ne_true
theorem op_ne : OpR X (compareOp .NotEq) rNe := by
  intro pins s σ H x y v u Q I rx ry h
  obtain ⟨hs, q⟩ := h
  cases x with
  | non =>
    cases rx
    cases y with
    | non => cases ry; exact PySem.EqNone.ne_none_none (fin_bl I q (by simp))
    | bl j => cases ry; exact PySem.EqNone.ne_none_bool (fin_bl I q (by simp))
    | int j => obtain ⟨t', rfl⟩ := ry; exact PySem.EqNone.ne_none_int (fin_bl I q (by simp))
    | str j => obtain ⟨t', rfl⟩ := ry; exact PySem.EqNone.ne_none_str (fin_bl I q (by simp))
    | _ => exact absurd (show false = true from hs) Bool.false_ne_true
  | bl i =>
    cases rx
    cases y with
    | non => cases ry; exact PySem.EqNone.ne_bool_none (fin_bl I q (by simp))
    | bl j => cases ry; exact ne_bool (fin_bl I q (congrArg not dec_bl))
    | str j => obtain ⟨t', rfl⟩ := ry; exact PySem.EqMixed.ne_bool_str (fin_bl I q (by simp))
    | _ => exact absurd (show false = true from hs) Bool.false_ne_true
  | int i =>
    obtain ⟨t, rfl⟩ := rx
    cases y with
    | non => cases ry; exact PySem.EqNone.ne_int_none (fin_bl I q (by simp))
    | int j => obtain ⟨t', rfl⟩ := ry; exact ne_int (fin_bl I q (congrArg not dec_int))
    | str j => obtain ⟨t', rfl⟩ := ry; exact PySem.EqMixed.ne_int_str (fin_bl I q (by simp))
    | _ => exact absurd (show false = true from hs) Bool.false_ne_true
  | str i =>
    obtain ⟨t, rfl⟩ := rx
    cases y with
    | non => cases ry; exact PySem.EqNone.ne_str_none (fin_bl I q (by simp))
    | bl j => cases ry; exact PySem.EqMixed.ne_str_bool (fin_bl I q (by simp))
    | int j => obtain ⟨t', rfl⟩ := ry; exact PySem.EqMixed.ne_str_int (fin_bl I q (by simp))
    | str j => obtain ⟨t', rfl⟩ := ry; exact ne_str (fin_bl I q (congrArg not dec_str))
    | _ => exact absurd (show false = true from hs) Bool.false_ne_true
  | byt i =>
    obtain ⟨t, rfl⟩ := rx
    cases y with
    | byt j => obtain ⟨t', rfl⟩ := ry; exact PySem.W.ne_bytes (fin_bl I q (congrArg not dec_byt))
    | _ => exact absurd (show false = true from hs) Bool.false_ne_true
  | _ => cases y <;> exact absurd (show false = true from hs) Bool.false_ne_true

theorem op_lt : OpR X (compareOp .Lt) (rI0 fun i j => .bl (decide (i < j))) := opB0 fun _ _ _ _ _ _ _ q => lt_int q
theorem op_le : OpR X (compareOp .LtE) (rI0 fun i j => .bl (decide (i ≤ j))) := opB0 fun _ _ _ _ _ _ _ q => le_int q
theorem op_gt : OpR X (compareOp .Gt) (rI0 fun i j => .bl (decide (j < i))) := opB0 fun _ _ _ _ _ _ _ q => gt_int q
theorem op_ge : OpR X (compareOp .GtE) (rI0 fun i j => .bl (decide (j ≤ i))) := opB0 fun _ _ _ _ _ _ _ q => ge_int q
theorem op_lt_str : OpR X (compareOp .Lt) (fun x y H Q => ∃ i j, x = .str i ∧ y = .str j ∧ Q (.bl (decide (i.cps.toList < j.cps.toList))) H) := by
  intro pins s σ H x y v u Q I rx ry h
  obtain ⟨i, j, rfl, rfl, q⟩ := h
  obtain ⟨t, rfl⟩ := rx
  obtain ⟨t', rfl⟩ := ry
  exact lt_str (fin_bl I q rfl)
/-- the one string within the other -/
theorem op_in_str : OpR X (compareOp .In) (fun x y H Q => ∃ i j, x = .str i ∧ y = .str j ∧ Q (.bl (!(Builtin.Str.occurrences j i 0 j.length 1).isEmpty)) H) := by
  intro pins s σ H x y v u Q I rx ry h
  obtain ⟨i, j, rfl, rfl, q⟩ := h
  obtain ⟨t, rfl⟩ := rx
  obtain ⟨t', rfl⟩ := ry
  exact in_str (fin_bl I q rfl)

/-- is None, is not None: the right side a value none -/
theorem op_isN : OpR X (compareOp .Is) (fun x y H Q => y = .non ∧ Q (.bl (decide (x = .non))) H) := by
  intro pins s σ H x y v u Q I rx ry h
  obtain ⟨rfl, q⟩ := h
  cases ry
  refine is_none_gen (fin_bl I q ?_)
  cases x <;> first
    | (cases rx; rfl)
    | (obtain ⟨t, rfl⟩ := rx; rfl)
theorem op_notN : OpR X (compareOp .IsNot) (fun x y H Q => y = .non ∧ Q (.bl (!decide (x = .non))) H) := by
  intro pins s σ H x y v u Q I rx ry h
  obtain ⟨rfl, q⟩ := h
  cases ry
  refine isnot_none_gen (fin_bl I q ?_)
  cases x <;> first
    | (cases rx; rfl)
    | (obtain ⟨t, rfl⟩ := rx; rfl)

theorem op_notin_str : OpR X (compareOp .NotIn) (fun x y H Q => ∃ i j, x = .str i ∧ y = .str j ∧ Q (.bl (!(!(Builtin.Str.occurrences j i 0 j.length 1).isEmpty))) H) := by
  intro pins s σ H x y v u Q I rx ry h
  obtain ⟨i, j, rfl, rfl, q⟩ := h
  obtain ⟨t, rfl⟩ := rx
  obtain ⟨t', rfl⟩ := ry
  exact notIn_str (fin_bl I q rfl)
/-- is, is not of two objects that are tracked lists or instances -/
def isObj : HO → Bool
  | .lst _ => true
  | .ins _ _ _ => true
  | _ => false
theorem obj_there {pins : List (Addr × Obj)} {s : Shared} {σ : St} {H : Hp} {a : Addr} {o : HO} (I : Inv X pins σ H s) (h : H a = some o) (p : isObj o = true) : ∃ ob, s.heap.get? a = some ob ∧ ob.cls ≠ .type "tuple" := by
  cases o with
  | lst xs =>
    obtain ⟨_, its, n, _, e⟩ : xs.length ≤ sizeLine ∧ ∃ (its : List Value) (n : Nat), Vals xs its ∧ s.heap.get? a = some { cls := .type "list", data := .seq its.toArray n } := I.hok a _ h
    exact ⟨_, e, (by show Value.type "list" ≠ .type "tuple"; decide +kernel)⟩
  | ins C dx fs =>
    have x := I.hok a _ h
    obtain ⟨_, _, _, e, _⟩ := x
    exact ⟨_, e, (by show Value.ref C ≠ .type "tuple"; exact fun z => by cases z)⟩
  | _ => exact absurd (show false = true from p) Bool.false_ne_true
theorem op_is_ref : OpR X (compareOp .Is) (fun x y H Q => ∃ a b oa ob, x = .ref a ∧ y = .ref b ∧ H a = some oa ∧ isObj oa = true ∧ H b = some ob ∧ isObj ob = true ∧ Q (.bl (decide (a = b))) H) := by
  intro pins s σ H x y v u Q I rx ry h
  obtain ⟨a, b, oa, ob, rfl, rfl, ha, pa, hb, pb, q⟩ := h
  cases rx
  cases ry
  obtain ⟨o1, e1, n1⟩ := obj_there I ha pa
  obtain ⟨o2, e2, _⟩ := obj_there I hb pb
  by_cases z : a = b
  · subst z
    exact wpAny_is_ref_self (fin_bl I q (by simp))
  · exact wpAny_is_ref_other z e1 e2 n1 (fin_bl I q (by simp [z]))
theorem op_isnot_ref : OpR X (compareOp .IsNot) (fun x y H Q => ∃ a b oa ob, x = .ref a ∧ y = .ref b ∧ H a = some oa ∧ isObj oa = true ∧ H b = some ob ∧ isObj ob = true ∧ Q (.bl (!decide (a = b))) H) := by
  intro pins s σ H x y v u Q I rx ry h
  obtain ⟨a, b, oa, ob, rfl, rfl, ha, pa, hb, pb, q⟩ := h
  cases rx
  cases ry
  obtain ⟨o1, e1, n1⟩ := obj_there I ha pa
  obtain ⟨o2, e2, _⟩ := obj_there I hb pb
  by_cases z : a = b
  · subst z
    exact wpAny_isNot_ref_self (fin_bl I q (by simp))
  · exact wpAny_isNot_ref_other z e1 e2 n1 (fin_bl I q (by simp [z]))

/-- two rules for one operation: by cases -/
theorem OpR.or {f : Value → Value → Sem Value} {r r' : R2} (h : OpR X f r) (h' : OpR X f r') : OpR X f (fun x y H Q => r x y H Q ∨ r' x y H Q) := by
  intro pins s σ H x y v u Q I rx ry q
  rcases q with q | q
  · exact h pins s σ H x y v u Q I rx ry q
  · exact h' pins s σ H x y v u Q I rx ry q

theorem nomark (b : Expr) {op : CmpOp} (h : op ≠ .In := by decide) (h2 : op ≠ .NotIn := by decide) : behindInMarks op b = false := by
  have e1 : (op == CmpOp.In) = false := by cases op <;> first | rfl | exact absurd rfl h
  have e2 : (op == CmpOp.NotIn) = false := by cases op <;> first | rfl | exact absurd rfl h2
  cases b <;> simp [behindInMarks, e1, e2]
/-- a comparison as a value; hm: nomark b, or (for in, not in) by with_unfolding_all rfl -/
theorem pe_cmpR {op : CmpOp} {r : R2} (ho : OpR X (compareOp op) r) (ha : PE X a ta) (hb : PE X b tb) (hm : behindInMarks op b = false) : PE X (.Compare a [op] [b] pos) (tOp r ta tb) := by
  intro pins s σ H Q I h
  exact wpAny_Compare1 (binT ha hb I h fun v u s2 x y H2 I2 rx ry q => ho pins s2 σ H2 x y v u Q I2 rx ry q) hm
/-- a reading of a value as a test -/
def tTest (t : TE) : TT := fun σ H Q => t σ H fun x H' => ∃ k, x = .bl k ∧ Q k H'
theorem pt_cmpR {op : CmpOp} {r : R2} (ho : OpR X (compareOp op) r) (ha : PE X a ta) (hb : PE X b tb) (hm : behindInMarks op b = false) : PT X (.Compare a [op] [b] pos) (tTest (tOp r ta tb)) := by
  intro pins s σ H Q I h
  refine wpAny_isTrue_Compare1 (thn (ha pins s σ H _ I h) fun v s1 ⟨x, H1, I1, r1, q1⟩ => thn (hb pins s1 σ H1 _ I1 q1) fun u s2 ⟨y, H2, I2, r2, q2⟩ =>
    thn (ho pins s2 σ H2 x y v u _ I2 r1 r2 q2) fun c s3 ⟨z, H3, I3, r3, k, e, q3⟩ => ?_) hm
  subst e
  cases r3
  exact wpAny_truthy_bool ⟨H3, I3, q3⟩
/-- a op1 b op2 c -/
def tChain (r r' : R2) (ta tb tc : TE) : TE := fun σ H Q => ta σ H fun x H1 => tb σ H1 fun y H2 => r x y H2 fun z H3 => ∃ k, z = .bl k ∧
  (if k = true then tc σ H3 fun w' H4 => r' y w' H4 Q else Q (.bl false) H3)
theorem pe_chain {op op' : CmpOp} {r r' : R2} (ho : OpR X (compareOp op) r) (ho' : OpR X (compareOp op') r') (ha : PE X a ta) (hb : PE X b tb) (hc : PE X c tc)
    (hm : lastMarks [op, op'] [b, c] = false := by with_unfolding_all rfl) : PE X (.Compare a [op, op'] [b, c] pos) (tChain r r' ta tb tc) := by
  intro pins s σ H Q I h
  refine Compare_chain (thn (ha pins s σ H _ I h) fun v s1 ⟨x, H1, I1, r1, q1⟩ => chain_link (thn (hb pins s1 σ H1 _ I1 q1) fun u s2 ⟨y, H2, I2, r2, q2⟩ =>
    thn (ho pins s2 σ H2 x y v u _ I2 r1 r2 q2) fun d s3 ⟨z, H3, I3, r3, k, e, q3⟩ => ?_)) hm
  subst e
  cases r3
  refine wpAny_truthy_bool ?_
  cases k with
  | false => exact ite_ff ⟨.bl false, H3, I3, rfl, q3⟩
  | true => exact ite_tt (chain_last (thn (hc pins s3 σ H3 _ I3 q3) fun w' s4 ⟨z', H4, I4, r4, q4⟩ => ho' pins s4 σ H4 y z' u w' Q I4 r2 r4 q4))
theorem pt_chain {op op' : CmpOp} {r r' : R2} (ho : OpR X (compareOp op) r) (ho' : OpR X (compareOp op') r') (ha : PE X a ta) (hb : PE X b tb) (hc : PE X c tc)
    (hm : lastMarks [op, op'] [b, c] = false := by with_unfolding_all rfl) : PT X (.Compare a [op, op'] [b, c] pos) (tTest (tChain r r' ta tb tc)) := by
  intro pins s σ H Q I h
  refine isTrue_chain (thn (ha pins s σ H _ I h) fun v s1 ⟨x, H1, I1, r1, q1⟩ => test_link (thn (hb pins s1 σ H1 _ I1 q1) fun u s2 ⟨y, H2, I2, r2, q2⟩ =>
    thn (ho pins s2 σ H2 x y v u _ I2 r1 r2 q2) fun d s3 ⟨z, H3, I3, r3, k, e, q3⟩ => ?_)) hm
  subst e
  cases r3
  refine wpAny_truthy_bool ?_
  cases k with
  | false =>
    obtain ⟨k', e', q'⟩ := q3
    cases e'
    exact ite_ff ⟨H3, I3, q'⟩
  | true =>
    refine ite_tt (test_last (thn (hc pins s3 σ H3 _ I3 q3) fun w' s4 ⟨z', H4, I4, r4, q4⟩ => thn (ho' pins s4 σ H4 y z' u w' _ I4 r2 r4 q4) fun d' s5 ⟨z2, H5, I5, r5, k2, e2, q5⟩ => ?_))
    subst e2
    cases r5
    exact wpAny_truthy_bool ⟨H5, I5, q5⟩

/-! ### truth -/
/-- a value's truth by the abstract heap -/
def TruV (K : PySem.W.Frag) (x : V) (H : Hp) (k : Bool) : Prop :=
  match x with
  | .non => k = false
  | .bl b => k = b
  | .int i => k = (i != 0)
  | .str y => y.length ≤ sizeLine ∧ k = ((y.length : Int) != 0)
  | .byt y => y.size ≤ sizeLine ∧ k = ((y.size : Int) != 0)
  | .ref p => (∃ xs, SqL K H p xs ∧ k = !xs.isEmpty) ∨ (∃ xs, SqT K H p xs ∧ k = !xs.isEmpty) ∨ ∃ kvs, H p = some (.dK kvs) ∧ k = !kvs.isEmpty
  | _ => False
theorem isEmpty_kv {κ : Type} {kvs : List (κ × V)} {vs : List (κ × Value)} (r : KV kvs vs) : (!vs.isEmpty) = !kvs.isEmpty := by
  cases r <;> rfl
theorem isEmpty_of {xs : List V} {its : List Value} (r : Vals xs its) : (!its.toArray.isEmpty) = !xs.isEmpty := by
  cases r <;> simp
theorem line63 : (sizeLine : Nat) < 2 ^ 63 := by rw [sizeLine_eq]; decide
theorem tru_ok : TruR X (fun x H Q => ∃ k, TruV X.K x H k ∧ Q k H) := by
  intro pins s σ H x v Q I rx h
  obtain ⟨k, e, q⟩ := h
  have hl := line63
  have hs : sizeLine = 16777216 := sizeLine_eq
  cases x with
  | non =>
    cases rx
    have e' : k = false := e
    subst e'
    exact truthy_none ⟨H, I, q⟩
  | bl b =>
    cases rx
    have e' : k = b := e
    subst e'
    exact wpAny_truthy_bool ⟨H, I, q⟩
  | int i =>
    obtain ⟨t, rfl⟩ := rx
    have e' : k = (i != 0) := e
    subst e'
    exact PySem.P.truthy_int ⟨H, I, q⟩
  | str y =>
    obtain ⟨t, rfl⟩ := rx
    obtain ⟨hy, e'⟩ : y.length ≤ sizeLine ∧ k = ((y.length : Int) != 0) := e
    subst e'
    exact PySem.P.truthy_str (by omega) ⟨H, I.tok _, q⟩
  | byt y =>
    obtain ⟨t, rfl⟩ := rx
    obtain ⟨hy, e'⟩ : y.size ≤ sizeLine ∧ k = ((y.size : Int) != 0) := e
    subst e'
    exact PySem.W.truthy_bytes (by omega) ⟨H, I.tok _, q⟩
  | ref p =>
    cases rx
    have e' : (∃ xs, SqL X.K H p xs ∧ k = !xs.isEmpty) ∨ (∃ xs, SqT X.K H p xs ∧ k = !xs.isEmpty) ∨ ∃ kvs, H p = some (.dK kvs) ∧ k = !kvs.isEmpty := e
    rcases e' with ⟨xs, hx, e'⟩ | ⟨xs, hx, e'⟩ | ⟨kvs, hx, e'⟩
    · subst e'
      obtain ⟨its, r, pl, hz⟩ := I.list hx
      have hlen := r.length
      exact wpAny_truthy_list pl.isList (by simp only [List.size_toArray]; omega) ⟨H, I.tok _, by rw [isEmpty_of r]; exact q⟩
    · subst e'
      obtain ⟨its, r, pl, hz⟩ := I.tuple hx
      have hlen := r.length
      exact truthy_tuple pl (by simp only [List.size_toArray]; omega) ⟨H, I.tok _, by rw [isEmpty_of r]; exact q⟩
    · subst e'
      obtain ⟨hz, hS, vs, r, m⟩ : kvs.length ≤ sizeLine ∧ (p == sysModules) = false ∧ ∃ vs, KV kvs vs ∧ s.heap.DictOf (mixKind X.prog X.w) p vs := I.hok p _ hx
      have hlen : kvs.length = vs.length := Paired.length r
      exact wpAny_truthy_dict hS m (by omega) ⟨H, I.tok _, by rw [isEmpty_kv r]; exact q⟩
  | _ => exact (show False from e).elim
/-- any expression whose test is its value's truth (a name, a call, a subscript, a field ..: he by fun _ => rfl) -/
theorem pt_truth (ha : PE X a ta) (he : ∀ whole, isTrue a X.env whole = (do let v ← whole; standAt a.pos; holding [v] (truthy v))) :
    PT X a (fun σ H Q => ta σ H fun x H' => ∃ k, TruV X.K x H' k ∧ Q k H') := by
  intro pins s σ H Q I h
  exact isTrue_plain (thn (ha pins s σ H _ I h) fun v s1 ⟨x, H1, I1, r1, q1⟩ => tru_ok pins s1 σ H1 x v Q I1 r1 q1) (he _)

/-! ### strs and bytes -/
theorem pe_byt {x : List UInt8} {k : Nat} : PE X (.Constant (.bytes x) k pos) (fun _ H Q => Q (.byt x.toArray) H) := fun _ _ _ H _ I h => PySem.W.Constant_bytes ⟨.byt x.toArray, H, I.tok _, ⟨_, rfl⟩, h⟩
theorem op_add_str : OpR X (binaryOp .Add) (fun x y H Q => ∃ i j, x = .str i ∧ y = .str j ∧ i.length + j.length ≤ sizeLine ∧ Q (.str (i ++ j)) H) := by
  intro pins s σ H x y v u Q I rx ry h
  obtain ⟨i, j, rfl, rfl, hz, q⟩ := h
  obtain ⟨t, rfl⟩ := rx
  obtain ⟨t', rfl⟩ := ry
  exact add_str (fun t' tk => ⟨.str (i ++ j), H, I.tok _, ⟨_, rfl⟩, q⟩) hz
theorem iop_add_str : OpR X (inplaceOp .Add) (fun x y H Q => ∃ i j, x = .str i ∧ y = .str j ∧ i.length + j.length ≤ sizeLine ∧ Q (.str (i ++ j)) H) := by
  intro pins s σ H x y v u Q I rx ry h
  obtain ⟨i, j, rfl, rfl, hz, q⟩ := h
  obtain ⟨t, rfl⟩ := rx
  obtain ⟨t', rfl⟩ := ry
  exact iadd_str (fun t' tk => ⟨.str (i ++ j), H, I.tok _, ⟨_, rfl⟩, q⟩) hz
theorem op_add_byt : OpR X (binaryOp .Add) (fun x y H Q => ∃ i j, x = .byt i ∧ y = .byt j ∧ i.size + j.size ≤ 16777216 ∧ Q (.byt (i ++ j)) H) := by
  intro pins s σ H x y v u Q I rx ry h
  obtain ⟨i, j, rfl, rfl, hz, q⟩ := h
  obtain ⟨t, rfl⟩ := rx
  obtain ⟨t', rfl⟩ := ry
  exact PySem.W.KBy.add_bytes hz (fun t' tk => ⟨.byt (i ++ j), H, I.tok _, ⟨_, rfl⟩, q⟩)

def PlainIxT (b : Expr) : Prop := ∀ o i, subscripted b false o i = operate [o, i] (getItem o i)
/-- s[i], 0 ≤ i < len -/
theorem pe_item_str (ha : PE X a ta) (hb : PE X b tb) (hs : PlainIxT b) :
    PE X (.Subscript a b pos) (tOp (fun x y H Q => ∃ z i c, x = .str z ∧ y = .int i ∧ 0 ≤ i ∧ i < 2 ^ 63 ∧ i < z.length ∧ z.cps[i.toNat]? = some c ∧ Q (.str ⟨#[c]⟩) H) ta tb) := by
  intro pins s σ H Q I h
  refine Subscript_ (binT ha hb I h fun v u s2 x y H2 I2 rx ry q => ?_)
  obtain ⟨z, i, c, rfl, rfl, h0, h63, h1, hc, q⟩ := q
  obtain ⟨t, rfl⟩ := rx
  obtain ⟨t', rfl⟩ := ry
  have e : seqIndex? i z.length = some i.toNat := PySem.StrLaws.seqIndex_nonneg h0 h1
  exact tail_any (typeIs_str s2 z t) slot_str_getitem.lookup (getItem_str (c := c) (by
    have e1 : decide (i < -(2 ^ 63 : Int)) = false := decide_eq_false (by omega)
    have e2 : decide (i ≥ 2 ^ 63) = false := decide_eq_false (by omega)
    rw [e1, e2] <;> rfl) (by rw [e]; exact hc) ⟨.str ⟨#[c]⟩, H2, I2.tok _, ⟨_, rfl⟩, q⟩) (hs _ _)
/-- b[i], 0 ≤ i < len -/
theorem pe_item_byt (ha : PE X a ta) (hb : PE X b tb) (hs : PlainIxT b) :
    PE X (.Subscript a b pos) (tOp (fun x y H Q => ∃ (z : List UInt8) (i : Int), x = .byt z.toArray ∧ y = .int i ∧ z.length ≤ sizeLine ∧ 0 ≤ i ∧ i < z.length ∧ Q (.int ((z.getD i.toNat 0).toNat : Nat)) H) ta tb) := by
  intro pins s σ H Q I h
  refine Subscript_ (binT ha hb I h fun v u s2 x y H2 I2 rx ry q => ?_)
  obtain ⟨z, i, rfl, rfl, hz, h0, h1, q⟩ := q
  obtain ⟨t, rfl⟩ := rx
  obtain ⟨t', rfl⟩ := ry
  have hl : sizeLine = 16777216 := sizeLine_eq
  exact tail_any (PySem.W.typeIs_bytes s2 z.toArray t) PySem.W.FB.slot_bytes_getitem.lookup (PySem.W.getItem_bytes (by omega) h0 h1 ⟨.int ((z.getD i.toNat 0).toNat : Nat), H2, I2.tok _, ⟨_, rfl⟩, q⟩) (hs _ _)

/-! ### scalar builtins, by CallR -/
theorem vals1 {x : V} {us : List Value} (r : Vals [x] us) : ∃ u, us = [u] ∧ RelV x u := by
  cases r with
  | cons r1 r2 => cases r2; exact ⟨_, rfl, r1⟩
theorem vals2 {x y : V} {us : List Value} (r : Vals [x, y] us) : ∃ u w', us = [u, w'] ∧ RelV x u ∧ RelV y w' := by
  cases r with
  | cons r1 r2 =>
    cases r2 with
    | cons r3 r4 => cases r4; exact ⟨_, _, rfl, r1, r3⟩
theorem call_abs : CallR X (.builtin "abs") (fun xs H Q => ∃ i, xs = [.int i] ∧ Q (.int (if i < 0 then -i else i)) H) := by
  intro pins s σ H xs us Q I r h
  obtain ⟨i, rfl, q⟩ := h
  obtain ⟨u, rfl, t, rfl⟩ := vals1 r
  exact call_abs_int fun u tk => ⟨.int (if i < 0 then -i else i), H, I.tok _, ⟨_, rfl⟩, q⟩
theorem call_max2 (hc : X.calm = true) : CallR X (.builtin "max") (fun xs H Q => ∃ i j, xs = [.int i, .int j] ∧ Q (.int (if j > i then j else i)) H) := by
  intro pins s σ H xs us Q I r h
  obtain ⟨i, j, rfl, q⟩ := h
  obtain ⟨u, w', rfl, ⟨t, rfl⟩, ⟨t', rfl⟩⟩ := vals2 r
  refine max_two_ints (I.ok.hd hc) fun h' tk k => ⟨_, H, I.kept k, ?_, q⟩
  by_cases hj : j > i
  · rw [if_pos hj, if_pos hj]; exact ⟨_, rfl⟩
  · rw [if_neg hj, if_neg hj]; exact ⟨_, rfl⟩
theorem call_min2 (hc : X.calm = true) : CallR X (.builtin "min") (fun xs H Q => ∃ i j, xs = [.int i, .int j] ∧ Q (.int (if j < i then j else i)) H) := by
  intro pins s σ H xs us Q I r h
  obtain ⟨i, j, rfl, q⟩ := h
  obtain ⟨u, w', rfl, ⟨t, rfl⟩, ⟨t', rfl⟩⟩ := vals2 r
  refine min_two_ints (I.ok.hd hc) fun h' tk k => ⟨_, H, I.kept k, ?_, q⟩
  by_cases hj : j < i
  · rw [if_pos hj, if_pos hj]; exact ⟨_, rfl⟩
  · rw [if_neg hj, if_neg hj]; exact ⟨_, rfl⟩
theorem call_int1 : CallR X (.type "int") (fun xs H Q => (∃ i, xs = [.int i] ∧ Q (.int i) H) ∨ ∃ k, xs = [.bl k] ∧ Q (.int (if k then 1 else 0)) H) := by
  intro pins s σ H xs us Q I r h
  rcases h with ⟨i, rfl, q⟩ | ⟨k, rfl, q⟩
  · obtain ⟨u, rfl, t, rfl⟩ := vals1 r
    exact call_int_int ⟨.int i, H, I, ⟨_, rfl⟩, q⟩
  · obtain ⟨u, rfl, r1⟩ := vals1 r
    cases r1
    exact call_int_bool ⟨.int (if k then 1 else 0), H, I.tok _, ⟨_, rfl⟩, q⟩
theorem call_bool1 : CallR X (.type "bool") (fun xs H Q => (∃ i, xs = [.int i] ∧ Q (.bl (i != 0)) H) ∨ ∃ k, xs = [.bl k] ∧ Q (.bl k) H) := by
  intro pins s σ H xs us Q I r h
  rcases h with ⟨i, rfl, q⟩ | ⟨k, rfl, q⟩
  · obtain ⟨u, rfl, t, rfl⟩ := vals1 r
    exact call_bool_int ⟨.bl (i != 0), H, I, rfl, q⟩
  · obtain ⟨u, rfl, r1⟩ := vals1 r
    cases r1
    exact call_bool_bool ⟨.bl k, H, I, rfl, q⟩
theorem call_str_int : CallR X (.type "str") (fun xs H Q => ∃ i, xs = [.int i] ∧ i.natAbs.log2 < 1920 ∧ Q (.str (toString i)) H) := by
  intro pins s σ H xs us Q I r h
  obtain ⟨i, rfl, hz, q⟩ := h
  obtain ⟨u, rfl, t, rfl⟩ := vals1 r
  exact PySem.P.str_of_int hz ⟨.str _, H, I.tok _, ⟨_, rfl⟩, q⟩
theorem call_ord : CallR X (.builtin "ord") (fun xs H Q => ∃ x, xs = [.str x] ∧ x.length = 1 ∧ Q (.int (x.cps.getD 0 0 : Nat)) H) := by
  intro pins s σ H xs us Q I r h
  obtain ⟨x, rfl, hz, q⟩ := h
  obtain ⟨u, rfl, t, rfl⟩ := vals1 r
  exact ord_of_one hz ⟨.int _, H, I.tok _, ⟨_, rfl⟩, q⟩
theorem call_chr : CallR X (.builtin "chr") (fun xs H Q => ∃ i, xs = [.int i] ∧ 0 ≤ i ∧ i ≤ 1114111 ∧ Q (.str ⟨#[i.toNat]⟩) H) := by
  intro pins s σ H xs us Q I r h
  obtain ⟨i, rfl, h0, h1, q⟩ := h
  obtain ⟨u, rfl, t, rfl⟩ := vals1 r
  exact chr_of_range h0 h1 ⟨.str _, H, I.tok _, ⟨_, rfl⟩, q⟩
/-- len of a str, a bytes, a list, a tuple -/
def LenV (K : PySem.W.Frag) (x : V) (H : Hp) (n : Nat) : Prop :=
  match x with
  | .str y => y.length ≤ sizeLine ∧ n = y.length
  | .byt y => y.size ≤ sizeLine ∧ n = y.size
  | .ref p => (∃ xs, SqL K H p xs ∧ n = xs.length) ∨ ∃ xs, SqT K H p xs ∧ n = xs.length
  | _ => False
theorem call_len : CallR X (.builtin "len") (fun xs H Q => ∃ x n, xs = [x] ∧ LenV X.K x H n ∧ Q (.int n) H) := by
  intro pins s σ H xs us Q I r h
  obtain ⟨x, n, rfl, e, q⟩ := h
  obtain ⟨u, rfl, rx⟩ := vals1 r
  have hl := line63
  have hs : sizeLine = 16777216 := sizeLine_eq
  cases x with
  | str y =>
    obtain ⟨t, rfl⟩ := rx
    obtain ⟨hy, e'⟩ : y.length ≤ sizeLine ∧ n = y.length := e
    subst e'
    exact len_str (by omega) ⟨.int _, H, I.tok _, ⟨_, rfl⟩, q⟩
  | byt y =>
    obtain ⟨t, rfl⟩ := rx
    obtain ⟨hy, e'⟩ : y.size ≤ sizeLine ∧ n = y.size := e
    subst e'
    exact PySem.W.len_bytes (by omega) ⟨.int _, H, I.tok _, ⟨_, rfl⟩, q⟩
  | ref p =>
    cases rx
    have e' : (∃ xs, SqL X.K H p xs ∧ n = xs.length) ∨ ∃ xs, SqT X.K H p xs ∧ n = xs.length := e
    rcases e' with ⟨xs, hx, e'⟩ | ⟨xs, hx, e'⟩
    · subst e'
      obtain ⟨its, r', pl, hz⟩ := I.list hx
      have hlen := r'.length
      exact Calls.call_len_list pl.isList (by simp only [List.size_toArray]; omega) ⟨.int xs.length, H, I.tok _, ⟨_, by simp only [List.size_toArray]; rw [hlen]⟩, q⟩
    · subst e'
      obtain ⟨its, r', pl, hz⟩ := I.tuple hx
      have hlen := r'.length
      exact len_tuple pl (by simp only [List.size_toArray]; omega) ⟨.int xs.length, H, I.tok _, ⟨_, by simp only [List.size_toArray]; rw [hlen]⟩, q⟩
  | _ => exact (show False from e).elim
/-- divmod: a new tuple -/
theorem call_divmod : CallR X (.builtin "divmod") (fun xs H Q => ∃ i j, xs = [.int i, .int j] ∧ CDiv i j ∧ ∀ p, H p = none → Q (.ref p) (upd H p (.tup [.int (i / j), .int (i % j)]))) := by
  intro pins s σ H xs us Q I r h
  obtain ⟨i, j, rfl, ⟨h1, h2⟩, q⟩ := h
  obtain ⟨u, w', rfl, ⟨t, rfl⟩, ⟨t', rfl⟩⟩ := vals2 r
  refine divmod_int (by omega) ?_ (.inl (PyProof.noPylong_small (by omega)))
  rw [Int.fdiv_eq_ediv_of_nonneg i (by omega), Int.fmod_eq_emod_of_nonneg i (by omega)]
  have hn : H s.heap.objs.size = none := I.hok.fresh (Nat.le_refl _)
  refine ⟨.ref s.heap.objs.size, _, ?_, rfl, q _ hn⟩
  refine I.laid (fun b o e => Heap.get?_push_of_some _ e) (Nat.le_refl _) ⟨by simp only [List.length_cons, List.length_nil]; rw [sizeLine_eq]; decide, [.int (i / j) s.toks, .int (i % j) (s.toks + 1)], .cons ⟨_, rfl⟩ (.cons ⟨_, rfl⟩ .nil), ?_⟩
  exact ⟨_, Heap.get?_push_size s.heap rfl, rfl, 0, rfl⟩
end
end L2

namespace L2
open PySem PySem.Spec PyProof.Rows

/-! ### an instance, its attributes a map -/
structure ObjM (h : Heap) (x dx C : Addr) (mA : Str → Option Value) : Prop where
  obj : h.get? x = some (PySem.W.instObj C dx)
  ns : h.Ns1 dx mA
  ne : dx ≠ x

theorem lookIn_ns {h : Heap} {dx : Addr} {mA : Str → Option Value} (n : h.Ns1 dx mA) : ∃ od, h.get? dx = some od ∧ ∀ name, PySem.W.lookIn name od = some (mA name) := by
  obtain ⟨o, es, ep, ho, hd, hk, _, hm⟩ := n
  refine ⟨o, ho, fun name => ?_⟩
  have e := hm name
  unfold nsFind findBy at e
  rw [← Array.find?_toList] at e
  unfold PySem.W.lookIn
  rw [hd]
  dsimp only
  split
  · rename_i y q
    rw [q] at e
    exact congrArg some e
  · rename_i q
    rw [q] at e
    have a : es.toList.any (·.refKey) = false := by
      rw [List.any_eq_false]
      intro y hy
      obtain ⟨z, t, hkey⟩ := hk y (Array.mem_toList_iff.mp hy)
      simp [DictEntry.refKey, hkey]
    have a' : ¬ es.toList.any (·.refKey) = true := by rw [a]; exact Bool.false_ne_true
    rw [if_neg a']
    exact congrArg some e

theorem ObjM.look {h : Heap} {x dx C : Addr} {mA : Str → Option Value} (I : ObjM h x dx C mA) : ∃ od, PySem.W.InstAt h x (PySem.W.instObj C dx) C (some od) ∧ ∀ name, PySem.W.lookIn name od = some (mA name) :=
  let ⟨od, ho, hl⟩ := lookIn_ns I.ns
  ⟨od, ⟨I.obj, rfl, rfl, ho⟩, hl⟩

section
variable {prog : Program} {w : World} {A : Around} {E : Value → Shared → Prop} {s : Shared} {K : PySem.W.Frag} {x dx C f : Addr} {mA : Str → Option Value} {name : Str} {v : Value}

theorem get_map {expr : Bool} {Q : Value → Shared → Prop} (X : K.In s.heap) (I : ObjM s.heap x dx C mA) (hg : PySem.W.plainGet K C name = true) (hh : PySem.W.hasDictIn K C = true)
    (ha : PySem.W.findIn K (.ref C) name = some none) (hv : mA name = some v) (hv' : PySem.W.handedIn v = true) (h : Q v { s with toks := s.toks + 1 }) :
    wpAny (model prog w) A (getAttr (.ref x) name expr) Q E s := by
  obtain ⟨od, J, hl⟩ := I.look
  exact PySem.W.get_value X J (PySem.W.plainGet_of hg).1 (PySem.W.findObj_own hh ha rfl (by rw [hl, hv])) hv' h

theorem get_const {expr : Bool} {a : Value} {Q : Value → Shared → Prop} (X : K.In s.heap) (I : ObjM s.heap x dx C mA) (hg : PySem.W.plainGet K C name = true) (hh : PySem.W.hasDictIn K C = true)
    (ha : PySem.W.findIn K (.ref C) name = some (some a)) (hn : PySem.W.specialIn K a "__get__" = some none) (hc : PySem.W.copiedNames.contains name = false) (hv : mA name = none) (hv' : PySem.W.handedIn a = true)
    (h : Q a { s with toks := s.toks + 1 }) : wpAny (model prog w) A (getAttr (.ref x) name expr) Q E s := by
  obtain ⟨od, J, hl⟩ := I.look
  exact PySem.W.get_value X J (PySem.W.plainGet_of hg).1 (PySem.W.findObj_cls hh ha hn hv' hc (by rw [hl, hv])) hv' h

theorem get_meth {pl : Sem Bool} {Q : Value × List Value → Shared → Prop} (X : K.In s.heap) (I : ObjM s.heap x dx C mA) (hg : PySem.W.plainGet K C name = true)
    (hf : PySem.W.findIn K (.ref C) name = some (some (.ref f))) (ht : PySem.W.isFn K (.ref f) = true) (hv : mA name = none) (h : Q (.ref f, [.ref x]) s) :
    wpAny (model prog w) A (getMethod (.ref x) name pl) Q E s := by
  obtain ⟨od, J, hl⟩ := I.look
  exact PySem.W.method_fn X J (PySem.W.plainGet_of hg).1 (PySem.W.plainGet_of hg).2 hf (beq_iff_eq.mp ht) (by show (PySem.W.lookIn name od).map (·.isSome) = some false; rw [hl, hv]; rfl) h

theorem set_map {ns : List Str} {Q : Unit → Shared → Prop} (X : K.In s.heap) (I : ObjM s.heap x dx C mA)
    (hs : PySem.W.findIn K (.ref C) "__setattr__" = some (some (.builtin "object.__setattr__"))) (hp : PySem.W.plainOver K C = true) (ht : PySem.W.takerIn K C name = some none) (hh : PySem.W.hasDictIn K C = true)
    (hw : PySem.Within mA ns) (hsz : ns.length ≤ sizeLine)
    (h : ∀ h', ObjM h' x dx C (fun y => if y = name then some v else mA y) → Heap.SameBut dx s.heap h' → Q () { s with heap := h', toks := s.toks + 2 }) :
    wpAny (model prog w) A (setAttr (.ref x) name v) Q E s := by
  obtain ⟨od, J, hl⟩ := I.look
  refine PySem.W.set_plain X J hs (PySem.W.osa_open (s := { s with toks := s.toks + 1 }) (r := none) X J hp ht fun b => ?_)
  obtain ⟨cd, hc, hd'⟩ := PySem.W.any_some hh
  have hx : s.heap.get? x = some ⟨.ref C, some dx, .plain, #[]⟩ := I.obj
  refine wpAny_bind (wpAny_pure (wpAny_bind (wpAny_bind (wpAny_loadPart hx (wpAny_bind (PySem.W.Looks.here (s := { s with toks := s.toks + 1 }) (PySem.W.looks_clsIn X hc) ?_))))))
  rw [hd']
  refine wpAny_pure (a := some dx) (wpAny_bind (wpAny_pure (wpAny_bind ?_)))
  refine wpAny_nsSet1 (s := { s with toks := s.toks + 1 }) I.ns fun h' hn2 hs2 => ?_
  obtain ⟨oD, esD, epD, hoD, hdD, hcD⟩ := hn2.count (PySem.Within.cons name v hw)
  refine wpAny_bind (wpAny_lookBehind hoD (by rw [hdD]; exact pastItsLine_dict (Nat.le_trans hcD (by rw [List.length_cons]; omega))) ?_)
  exact wpAny_pure (h _ ⟨(hs2.2 _ (Ne.symm I.ne)).trans I.obj, hn2, I.ne⟩ hs2)

/-- C(..): the dict at the heap's end, the instance behind it; then its __init__ -/
theorem make_map {R : Result → Shared → Prop} {vs : List Value} {kw : List (Str × Value)} (X : K.In s.heap) (hm : PySem.W.makesIn K C = true)
    (hi : PySem.W.findIn K (.ref C) "__init__" = some (some (.ref f))) (hf : PySem.W.typeIn K (.ref f) = some (.type "function"))
    (h : codeAny (model prog w) (A.under (.builtin "type.__call__" ⟨.ref C :: vs, kw⟩)) (.call (.ref f) ⟨.ref (s.heap.objs.size + 1) :: vs, kw⟩) (PySem.W.InitBack (s.heap.objs.size + 1) R)
      { s with heap := (s.heap.push PySem.W.emptyDict).push (PySem.W.instObj C s.heap.objs.size) }) :
    codeAny (model prog w) A (.call (.ref C) ⟨vs, kw⟩) R s := by
  obtain ⟨hh, g, d, t, os⟩ := s
  exact PySem.W.make_core (PySem.W.makes_of X hm) (PySem.W.looks_findIn X hi) (fun self => PySem.W.bind_fn X self hf) (.inl rfl) h
/-- C() where there is no __init__ but object's -/
theorem make_map0 {R : Result → Shared → Prop} (X : K.In s.heap) (hm : PySem.W.makesIn K C = true)
    (hi : PySem.W.findIn K (.ref C) "__init__" = some (some (.builtin "object.__init__")))
    (hb : ∀ self, PySem.W.Looks (model prog w) s.heap (bindSpecial (.builtin "object.__init__") self) (.builtin "object.__init__", [self]))
    (h : codeAny (model prog w) (A.under (.builtin "type.__call__" ⟨[.ref C], []⟩)) (.call (.builtin "object.__init__") ⟨[.ref (s.heap.objs.size + 1)], []⟩) (PySem.W.InitBack (s.heap.objs.size + 1) R)
      { s with heap := (s.heap.push PySem.W.emptyDict).push (PySem.W.instObj C s.heap.objs.size) }) :
    codeAny (model prog w) A (.call (.ref C) ⟨[], []⟩) R s := by
  obtain ⟨hh, g, d, t, os⟩ := s
  exact PySem.W.make_core (PySem.W.makes_of X hm) (PySem.W.looks_findIn X hi) hb (.inr ⟨rfl, rfl⟩) h
end

/-! ### the attributes as a list of pairs -/
def putF (f : Str) (v : V) : List (Str × V) → List (Str × V)
  | [] => [(f, v)]
  | (g, x) :: r => if g = f then (g, v) :: r else (g, x) :: putF f v r
theorem lookup_putF (f g : Str) (v : V) : ∀ fs : List (Str × V), (putF f v fs).lookup g = if g = f then some v else fs.lookup g
  | [] => by
    show List.lookup g [(f, v)] = _
    by_cases h : g = f
    · have hb : (g == f) = true := beq_iff_eq.mpr h
      simp only [List.lookup, hb, if_pos h]
    · have hb : (g == f) = false := beq_eq_false_iff_ne.mpr h
      simp only [List.lookup, hb, if_neg h]
  | (k, x) :: r => by
    have ih := lookup_putF f g v r
    rw [show putF f v ((k, x) :: r) = (if k = f then (k, v) :: r else (k, x) :: putF f v r) from rfl]
    by_cases hk : k = f
    · rw [if_pos hk]
      by_cases h : g = k
      · have hb : (g == k) = true := beq_iff_eq.mpr h
        simp only [List.lookup, hb, if_pos (h.trans hk)]
      · have hb : (g == k) = false := beq_eq_false_iff_ne.mpr h
        simp only [List.lookup, hb, if_neg (fun e : g = f => h (e.trans hk.symm))]
    · rw [if_neg hk]
      by_cases h : g = k
      · have hb : (g == k) = true := beq_iff_eq.mpr h
        simp only [List.lookup, hb, if_neg (fun e : g = f => hk (h.symm.trans e))]
      · have hb : (g == k) = false := beq_eq_false_iff_ne.mpr h
        simp only [List.lookup, hb]
        exact ih
theorem keys_putF (f : Str) (v : V) : ∀ fs : List (Str × V), f ∈ (putF f v fs).map (·.1) ∧ ∀ g, g ∈ fs.map (·.1) → g ∈ (putF f v fs).map (·.1)
  | [] => ⟨by simp [putF], fun g h => by simp at h⟩
  | (k, x) :: r => by
    obtain ⟨i1, i2⟩ := keys_putF f v r
    rw [show putF f v ((k, x) :: r) = (if k = f then (k, v) :: r else (k, x) :: putF f v r) from rfl]
    by_cases hk : k = f
    · rw [if_pos hk]
      subst hk
      exact ⟨by simp, fun g h => by simpa using h⟩
    · rw [if_neg hk]
      refine ⟨?_, fun g h => ?_⟩
      · rw [List.map_cons]
        exact List.mem_cons_of_mem _ i1
      · rw [List.map_cons] at h ⊢
        rcases List.mem_cons.mp h with e | e
        · exact List.mem_cons.mpr (.inl e)
        · exact List.mem_cons_of_mem _ (i2 g e)
theorem length_putF (f : Str) (v : V) : ∀ fs : List (Str × V), (putF f v fs).length ≤ fs.length + 1
  | [] => by simp [putF]
  | (k, x) :: r => by
    have ih := length_putF f v r
    rw [show putF f v ((k, x) :: r) = (if k = f then (k, v) :: r else (k, x) :: putF f v r) from rfl]
    by_cases hk : k = f
    · rw [if_pos hk, List.length_cons, List.length_cons]; omega
    · rw [if_neg hk, List.length_cons, List.length_cons]; omega

theorem RelO.some_of {v : V} {o : Option Value} (r : RelO (some v) o) : ∃ u, o = some u ∧ RelV v u := by
  cases o with
  | none => exact (show False from r).elim
  | some u => exact ⟨u, rfl, r⟩
theorem RelO.none_of {o : Option Value} (r : RelO none o) : o = none := by
  cases o with
  | none => rfl
  | some u => exact (show False from r).elim
theorem handed_of {v : V} {u : Value} (r : RelV v u) : PySem.W.handedIn u = true := by
  cases v with
  | non => cases (show u = Value.none from r); rfl
  | bl b => cases (show u = Value.bool b from r); rfl
  | int i => obtain ⟨t, e⟩ := (show ∃ t, u = Value.int i t from r); cases e; rfl
  | str x => obtain ⟨t, e⟩ := (show ∃ t, u = Value.str x t from r); cases e; rfl
  | byt b => obtain ⟨t, e⟩ := (show ∃ t, u = Value.bytes b t from r); cases e; rfl
  | flt b => obtain ⟨t, e⟩ := (show ∃ t, u = Value.float b t from r); cases e; rfl
  | ref a => cases (show u = Value.ref a from r); rfl
  | ty n => cases (show u = Value.type n from r); rfl

section
variable {P : Program} {w : World} {H H' : Hp} {h h' : Heap} {a C dx : Addr} {fs fs' : List (Str × V)}
theorem ins_get (hok : HOk P w H h) (e : H a = some (.ins C dx fs)) : ∃ mA, ObjM h a dx C mA ∧ (∀ f, RelO (fs.lookup f) (mA f)) ∧ PySem.Within mA (fs.map (·.1)) ∧ fs.length ≤ 1000 ∧ H dx = some (.own a) := by
  obtain ⟨d, z, ne, ob, mA, n, r, q⟩ := (show ObjOk P w H h a (.ins C dx fs) from hok a _ e)
  exact ⟨mA, ⟨ob, n, ne⟩, r, q, z, d⟩
end

/-! ### what of the text a class must have -/
structure Cls (K : PySem.W.Frag) (C : Addr) : Prop where
  pg : PySem.W.plainGet K C Str.empty = true
  hd : PySem.W.hasDictIn K C = true
  po : PySem.W.plainOver K C = true
  sa : PySem.W.findIn K (.ref C) "__setattr__" = some (some (.builtin "object.__setattr__"))
theorem Cls.get {K : PySem.W.Frag} {C : Addr} (c : Cls K C) (f : Str) : PySem.W.plainGet K C f = true := c.pg
/-- no class of it has the name -/
def NoAttr (K : PySem.W.Frag) (C : Addr) (f : Str) : Prop := PySem.W.findIn K (.ref C) f = some none
theorem NoAttr.taker {K : PySem.W.Frag} {C : Addr} {f : Str} (n : NoAttr K C f) : PySem.W.takerIn K C f = some none := by
  unfold PySem.W.takerIn
  rw [show PySem.W.findIn K (.ref C) f = some none from n]
  rfl
/-- a constant of the class -/
structure Con (K : PySem.W.Frag) (C : Addr) (f : Str) (v : V) (u : Value) : Prop where
  at_ : PySem.W.findIn K (.ref C) f = some (some u)
  rel : RelV v u
  get : PySem.W.specialIn K u "__get__" = some none
  cp : PySem.W.copiedNames.contains f = false
/-- a method: a plain def of the class or of one above it -/
structure Meth (K : PySem.W.Frag) (C : Addr) (m : Str) (f : Addr) : Prop where
  at_ : PySem.W.findIn K (.ref C) m = some (some (.ref f))
  fn : PySem.W.isFn K (.ref f) = true
  kp : PySem.W.keepIn K (.ref f) = true

section
variable {X : Cx} {pins : List (Addr × Obj)} {σ : St} {H : Hp} {s : Shared} {a C dx : Addr} {fs : List (Str × V)} {f : Str} {v : V} {A : Around} {E : Value → Shared → Prop}

theorem getattr_ok {b : Bool} {Q : Value → Shared → Prop} (I : Inv X pins σ H s) (e : H a = some (.ins C dx fs)) (c : Cls X.K C) (n : NoAttr X.K C f) (l : fs.lookup f = some v)
    (h : ∀ u s', Inv X pins σ H s' → RelV v u → Q u s') : wpAny (model X.prog X.w) A (getAttr (.ref a) f b) Q E s := by
  obtain ⟨mA, O, r, _, _, _⟩ := ins_get I.hok e
  obtain ⟨u, hu, ru⟩ := RelO.some_of (v := v) (o := mA f) (by rw [← l]; exact r f)
  exact get_map I.kIn O (c.get f) c.hd n hu (handed_of ru) (h u _ (I.tok _) ru)

theorem getcon_ok {b : Bool} {u : Value} {Q : Value → Shared → Prop} (I : Inv X pins σ H s) (e : H a = some (.ins C dx fs)) (c : Cls X.K C) (k : Con X.K C f v u) (l : fs.lookup f = none)
    (h : ∀ s', Inv X pins σ H s' → Q u s') : wpAny (model X.prog X.w) A (getAttr (.ref a) f b) Q E s := by
  obtain ⟨mA, O, r, _, _, _⟩ := ins_get I.hok e
  have hn : mA f = none := RelO.none_of (by rw [← l]; exact r f)
  exact get_const I.kIn O (c.get f) c.hd k.at_ k.get k.cp hn (handed_of k.rel) (h _ (I.tok _))

theorem getmeth_ok {m : Str} {g : Addr} {pl : Sem Bool} {Q : Value × List Value → Shared → Prop} (I : Inv X pins σ H s) (e : H a = some (.ins C dx fs)) (c : Cls X.K C) (k : Meth X.K C m g) (l : fs.lookup m = none)
    (h : Q (.ref g, [.ref a]) s) : wpAny (model X.prog X.w) A (getMethod (.ref a) m pl) Q E s := by
  obtain ⟨mA, O, r, _, _, _⟩ := ins_get I.hok e
  have hn : mA m = none := RelO.none_of (by rw [← l]; exact r m)
  exact get_meth I.kIn O (c.get m) k.at_ k.fn hn h

theorem setattr_ok {y : V} {u : Value} {Q : Unit → Shared → Prop} (I : Inv X pins σ H s) (e : H a = some (.ins C dx fs)) (c : Cls X.K C) (n : NoAttr X.K C f) (hl : fs.length < 1000) (ry : RelV y u)
    (h : ∀ s', Inv X pins σ (upd H a (.ins C dx (putF f y fs))) s' → Q () s') : wpAny (model X.prog X.w) A (setAttr (.ref a) f u) Q E s := by
  obtain ⟨mA, O, r, wi, _, ho⟩ := ins_get I.hok e
  have hz : (fs.map (·.1)).length ≤ sizeLine := by rw [List.length_map, sizeLine_eq]; omega
  refine set_map I.kIn O c.sa c.po n.taker c.hd wi hz fun h' O' sb => h _ ?_
  have hd : ∃ o, h'.get? dx = some o := let ⟨o, _, _, e', _⟩ := O'.ns; ⟨o, e'⟩
  refine I.write (x := a) (e := dx) (by rw [e]; exact True.intro) (.inr ho) (fun b q hb z => (sb.2 b hb).trans z) hd ?_
  refine ⟨by rw [upd_ne O.ne]; exact ho, ?_, O.ne, O'.obj, _, O'.ns, fun g => ?_, fun g hg => ?_⟩
  · have := length_putF f y fs; omega
  · show RelO ((putF f y fs).lookup g) (if g = f then some u else mA g)
    rw [lookup_putF]
    by_cases q : g = f
    · rw [if_pos q, if_pos q]; exact ry
    · rw [if_neg q, if_neg q]; exact r g
  · by_cases q : g = f
    · rw [q]; exact (keys_putF f y fs).1
    · refine (keys_putF f y fs).2 g (wi g fun z => hg ?_)
      show (if g = f then some u else mA g) = none
      rw [if_neg q]; exact z

/-- a new instance, tracked, without attributes -/
theorem Inv.made (I : Inv X pins σ H s) : Inv X pins σ (upd (upd H s.heap.objs.size (.own (s.heap.objs.size + 1))) (s.heap.objs.size + 1) (.ins C s.heap.objs.size []))
    { s with heap := (s.heap.push PySem.W.emptyDict).push (PySem.W.instObj C s.heap.objs.size) } := by
  have e1 : (s.heap.push PySem.W.emptyDict).get? s.heap.objs.size = some PySem.W.emptyDict := Heap.get?_push_size s.heap rfl
  have e2 : ((s.heap.push PySem.W.emptyDict).push (PySem.W.instObj C s.heap.objs.size)).get? (s.heap.objs.size + 1) = some (PySem.W.instObj C s.heap.objs.size) := by
    have := Heap.get?_push_size (s.heap.push PySem.W.emptyDict) (o := PySem.W.instObj C s.heap.objs.size) rfl
    rwa [Heap.size_push] at this
  have e3 : (s.heap.push PySem.W.emptyDict).Ns s.heap.objs.size (fun _ => none) := ⟨PySem.W.emptyDict, #[], _, e1, rfl, (fun e he => absurd he (by simp)), fun _ => rfl⟩
  have I1 := I.laid (a := s.heap.objs.size) (o := .own (s.heap.objs.size + 1)) (h' := s.heap.push PySem.W.emptyDict) (t' := s.toks) (fun b u q => Heap.get?_push_of_some _ q) (Nat.le_refl _) ⟨_, e1⟩
  refine I1.laid (a := s.heap.objs.size + 1) (o := .ins C s.heap.objs.size []) (t' := s.toks) (fun b u q => Heap.get?_push_of_some _ q) (Nat.le_of_eq (Heap.size_push _ _)) ?_
  have ne : s.heap.objs.size ≠ s.heap.objs.size + 1 := Nat.ne_of_lt (Nat.lt_succ_self _)
  refine ⟨by rw [upd_ne ne, upd_same], Nat.zero_le _, ne, e2, fun _ => none, (Heap.Ns1.of_empty e3).at fun o q => Heap.get?_push_of_some _ q, fun _ => True.intro, fun y hy => absurd rfl hy⟩

/-- e.f where nothing but the object is asked: through attributeBase (super) and the last hold -/
theorem attr_of {prog : Program} {w : World} {env : Env} {e : Expr} {f : Str} {pos : Pos} {s : Shared} {Q : Value → Shared → Prop} (hb : attributeBase e f env (eval e env) = eval e env)
    (h : wpAny (model prog w) A (eval e env) (fun o s₁ => wpAny (model prog w) A (getAttr o f true) Q E s₁) E s) : wpAny (model prog w) A (eval (.Attribute e f pos) env) Q E s :=
  Attribute_any_ h (by rw [arm_eval_Attribute, hb])
end

/-! ### readings and rules -/
/-- e.f, an attribute of the instance -/
def tFld (K : PySem.W.Frag) (ta : TE) (f : Str) : TE := fun σ H Q => ta σ H fun x H1 => ∃ a C dx fs v, x = .ref a ∧ H1 a = some (.ins C dx fs) ∧ Cls K C ∧ NoAttr K C f ∧ fs.lookup f = some v ∧ Q v H1
/-- e.f, a constant of the class -/
def tCon (K : PySem.W.Frag) (ta : TE) (f : Str) : TE := fun σ H Q => ta σ H fun x H1 => ∃ a C dx fs v u, x = .ref a ∧ H1 a = some (.ins C dx fs) ∧ Cls K C ∧ Con K C f v u ∧ fs.lookup f = none ∧ Q v H1
/-- e.f = value -/
def sFld (K : PySem.W.Frag) (ta tv : TE) (f : Str) : TS := fun D σ H => tv σ H fun y H1 => ta σ H1 fun x H2 => ∃ a C dx fs, x = .ref a ∧ H2 a = some (.ins C dx fs) ∧ Cls K C ∧ NoAttr K C f ∧ fs.length < 1000 ∧
  D.nx σ (upd H2 a (.ins C dx (putF f y fs)))
/-- an augmented operator on two values -/
def InOp (X : Cx) (op : Operator) (rd : V → V → Hp → VK → Prop) : Prop :=
  ∀ (pins : List (Addr × Obj)) (s : Shared) (σ : St) (H : Hp) (x y : V) (u v : Value) (Q : VK), Inv X pins σ H s → RelV x u → RelV y v → rd x y H Q → wpAny (model X.prog X.w) X.A (inplaceOp op u v) (EP X pins σ Q) X.xe s
/-- e.f op= value -/
def sFldAug (K : PySem.W.Frag) (ta tv : TE) (rd : V → V → Hp → VK → Prop) (f : Str) : TS := fun D σ H => ta σ H fun x H1 => ∃ a C dx fs v, x = .ref a ∧ H1 a = some (.ins C dx fs) ∧ Cls K C ∧ NoAttr K C f ∧ fs.lookup f = some v ∧
  tv σ H1 fun y H2 => rd v y H2 fun z H3 => ∃ dx' fs', H3 a = some (.ins C dx' fs') ∧ fs'.length < 1000 ∧ D.nx σ (upd H3 a (.ins C dx' (putF f z fs')))

section
variable {X : Cx} {o e value : Expr} {f : Str} {pos pos' tpos : Pos} {ta tv : TE}
theorem pe_fld (he : PE X e ta) (hb : attributeBase e f X.env (eval e X.env) = eval e X.env) : PE X (.Attribute e f pos) (tFld X.K ta f) := by
  intro pins s σ H Q I h
  refine attr_of hb (thn (he pins s σ H _ I h) fun u s1 ⟨x, H1, I1, rx, a, C, dx, fs, v, ex, ea, c, n, l, q⟩ => ?_)
  subst ex
  obtain rfl : u = Value.ref a := rx
  exact getattr_ok I1 ea c n l fun u' s2 I2 ru => ⟨v, H1, I2, ru, q⟩
theorem pe_con (he : PE X e ta) (hb : attributeBase e f X.env (eval e X.env) = eval e X.env) : PE X (.Attribute e f pos) (tCon X.K ta f) := by
  intro pins s σ H Q I h
  refine attr_of hb (thn (he pins s σ H _ I h) fun u s1 ⟨x, H1, I1, rx, a, C, dx, fs, v, u0, ex, ea, c, k, l, q⟩ => ?_)
  subst ex
  obtain rfl : u = Value.ref a := rx
  exact getcon_ok I1 ea c k l fun s2 I2 => ⟨v, H1, I2, k.rel, q⟩
theorem ps_fld (ha : PE X o ta) (hv : PE X value tv) (hs : swapsWith value (some (.Attribute o f pos')) pos.line X.env = pure false) : PS X (.Assign [.Attribute o f pos'] value pos) (sFld X.K ta tv f) := by
  intro pins s σ H D I h
  refine plainObj_wpAny_Assign_Attribute (thn (hv pins s σ H _ I h) fun u s1 ⟨y, H1, I1, ry, q⟩ => thn (ha pins s1 σ H1 _ I1 q) fun ov s2 ⟨x, H2, I2, rx, a, C, dx, fs, ex, ea, c, n, l, q2⟩ => ?_) hs
  subst ex
  obtain rfl : ov = Value.ref a := rx
  exact setattr_ok I2 ea c n l ry fun s3 I3 => ⟨σ, _, I3, q2⟩
theorem ps_fldaug {op : Operator} {rd : V → V → Hp → VK → Prop} (ha : PE X o ta) (hv : PE X value tv) (hop : InOp X op rd) : PS X (.AugAssign (.Attribute o f tpos) op value pos) (sFldAug X.K ta tv rd f) := by
  intro pins s σ H D I h
  refine wpAny_AugAssign_AttributeAny (thn (ha pins s σ H _ I h) fun ov s1 ⟨x, H1, I1, rx, a, C, dx, fs, v, ex, ea, c, n, l, q⟩ => ?_)
  subst ex
  obtain rfl : ov = Value.ref a := rx
  refine getattr_ok I1 ea c n l fun u s2 I2 ru => thn (hv pins s2 σ H1 _ I2 q) fun w3 s3 ⟨y, H2, I3, ry, q3⟩ => thn (hop pins s3 σ H2 v y u w3 _ I3 ru ry q3) fun w4 s4 ⟨z, H3, I4, rz, dx', fs', ea', l', q4⟩ => ?_
  exact setattr_ok I4 ea' c n l' rz fun s5 I5 => ⟨σ, _, I5, q4⟩
def rAdd : V → V → Hp → VK → Prop := fun x y H Q => ∃ i j, x = .int i ∧ y = .int j ∧ Q (.int (i + j)) H
def rSub : V → V → Hp → VK → Prop := fun x y H Q => ∃ i j, x = .int i ∧ y = .int j ∧ Q (.int (i - j)) H
theorem in_add : InOp X .Add rAdd := by
  rintro pins s σ H x y u v Q I rx ry ⟨i, j, rfl, rfl, q⟩
  obtain ⟨t, rfl⟩ := (show ∃ t, u = Value.int i t from rx)
  obtain ⟨t', rfl⟩ := (show ∃ t', v = Value.int j t' from ry)
  exact PyProof.Rows.iadd_int ⟨.int (i + j), H, I.tok _, ⟨_, rfl⟩, q⟩
theorem in_sub : InOp X .Sub rSub := by
  rintro pins s σ H x y u v Q I rx ry ⟨i, j, rfl, rfl, q⟩
  obtain ⟨t, rfl⟩ := (show ∃ t, u = Value.int i t from rx)
  obtain ⟨t', rfl⟩ := (show ∃ t', v = Value.int j t' from ry)
  exact PyProof.Rows.isub_int ⟨.int (i - j), H, I.tok _, ⟨_, rfl⟩, q⟩

/-- what is between an instance and its method: the tree of a method call -/
theorem methcall_of {pl : Sem Bool} {m : Str} {apos : Pos} {args : List Expr} {pins : List (Addr × Obj)} {s : Shared} {σ : St} {H : Hp} {Q : Value → Shared → Prop} {te : TE} (he : PE X e te) (I : Inv X pins σ H s)
    (h : te σ H fun x H1 => ∃ a C dx fs g, x = .ref a ∧ H1 a = some (.ins C dx fs) ∧ Cls X.K C ∧ Meth X.K C m g ∧ fs.lookup m = none ∧
      ∀ s1, Inv X pins σ H1 s1 → wpAny (model X.prog X.w) X.A (callWith pos (.ref g) [.ref a] (backTo pos (starEach args X.env)) (backToKw pos (keywordEach [] X.env))) Q X.xe s1)
    (ht : eval (.Call (.Attribute e m apos) args [] pos) X.env = (do
      let ov ← eval e X.env
      standAt apos.atName
      let (f, first) ← holding [ov] (getMethod ov m pl)
      callWith pos f first (backTo pos (starEach args X.env)) (backToKw pos (keywordEach [] X.env)))) :
    wpAny (model X.prog X.w) X.A (eval (.Call (.Attribute e m apos) args [] pos) X.env) Q X.xe s := by
  refine PySem.W.methodCall_KW (pl := pl) (thn (he pins s σ H _ I h) fun u s1 ⟨x, H1, I1, rx, a, C, dx, fs, g, ex, ea, c, k, l, q⟩ => ?_) ht
  subst ex
  obtain rfl : u = Value.ref a := rx
  exact getmeth_ok I1 ea c k l (q s1 I1)
end

/-! ### isinstance -/
section
variable {X : Cx} {pins : List (Addr × Obj)} {σ : St} {H : Hp} {s : Shared} {A : Around} {E : Value → Shared → Prop} {Q : Value → Shared → Prop} {c : Value} {b : Bool}
/-- the type of a value, as the fragment's deciders take it; for an instance its class -/
inductive TyOf (K : PySem.W.Frag) (H : Hp) : V → Value → Prop where
  | non : TyOf K H .non (.type "NoneType")
  | bl (x : Bool) : TyOf K H (.bl x) (.type "bool")
  | int (i : Int) : TyOf K H (.int i) (.type "int")
  | str (x : Str) : TyOf K H (.str x) (.type "str")
  | flt (x : UInt64) : TyOf K H (.flt x) (.type "float")
  | lst {a : Addr} {xs : List V} (e : H a = some (.lst xs)) : TyOf K H (.ref a) (.type "list")
  | frz {a : Addr} {o : Obj} {xs : List V} (e : H a = some (.frz o (.lst xs))) : TyOf K H (.ref a) (.type "list")
  | tup {a : Addr} {xs : List V} (e : H a = some (.tup xs)) : TyOf K H (.ref a) (.type "tuple")
  | dK {a : Addr} {kvs : List (Key × V)} (e : H a = some (.dK kvs)) : TyOf K H (.ref a) (.type "dict")
  | dT {a : Addr} {kvs : List (List Key × V)} (e : H a = some (.dT kvs)) : TyOf K H (.ref a) (.type "dict")
  | ins {a C dx : Addr} {fs : List (Str × V)} (e : H a = some (.ins C dx fs)) (cl : Cls K C) (ha : PySem.W.findIn K (.ref C) "__class__" = some (some (.builtin "object.__class__")))
      (hn : PySem.W.specialIn K (.builtin "object.__class__") "__get__" = some (some (.builtin "getset_descriptor.__get__"))) (htk : PySem.W.takesIn K (.builtin "object.__class__") = some true)
      (hm : PySem.W.mroIn K C (.type "object") = some true) : TyOf K H (.ref a) (.ref C)
/-- isinstance(x, c) for one class c, a built-in or an own one: kitOne's answer -/
theorem isinst_ok {x : V} {u t : Value} (I : Inv X pins σ H s) (rx : RelV x u) (ty : TyOf X.K H x t) (e : PySem.W.kitOne X.K t c = some b) (h : ∀ tk, Q (.bool b) { s with toks := tk }) :
    wpAny (model X.prog X.w) A (call (.builtin "isinstance") [u, c]) Q E s := by
  cases ty with
  | non => cases (show u = Value.none from rx); exact PySem.W.kia_one PySem.W.kitx_none I.kIn True.intro e (fun z => nomatch z) h
  | bl y => cases (show u = Value.bool y from rx); exact PySem.W.kia_one PySem.W.kitx_bool I.kIn True.intro e (fun z => nomatch z) h
  | int i => obtain ⟨t, q⟩ := (show ∃ t, u = Value.int i t from rx); cases q; exact PySem.W.kia_one PySem.W.kitx_int I.kIn True.intro e (fun z => nomatch z) h
  | str y => obtain ⟨t, q⟩ := (show ∃ t, u = Value.str y t from rx); cases q; exact PySem.W.kia_one PySem.W.kitx_str I.kIn True.intro e (fun z => nomatch z) h
  | flt y => obtain ⟨t, q⟩ := (show ∃ t, u = Value.float y t from rx); cases q; exact PySem.W.kia_one PySem.W.kitx_float I.kIn True.intro e (fun z => nomatch z) h
  | @lst a xs ea =>
    cases (show u = Value.ref a from rx)
    obtain ⟨_, _, n, _, h1⟩ := (show ObjOk X.prog X.w H s.heap a (.lst xs) from I.hok a _ ea)
    exact PySem.W.kia_one PySem.W.kitx_list I.kIn ⟨_, h1, rfl⟩ e (fun z => nomatch z) h
  | @frz a ob xs ea =>
    cases (show u = Value.ref a from rx)
    obtain ⟨_, _, _, n, _, h1⟩ := (show ObjOk X.prog X.w H s.heap a (.frz ob (.lst xs)) from I.hok a _ ea)
    exact PySem.W.kia_one PySem.W.kitx_list I.kIn ⟨_, h1, rfl⟩ e (fun z => nomatch z) h
  | @tup a xs ea =>
    cases (show u = Value.ref a from rx)
    obtain ⟨_, _, _, p⟩ := (show ObjOk X.prog X.w H s.heap a (.tup xs) from I.hok a _ ea)
    obtain ⟨o, h1, h2, _⟩ := p
    exact PySem.W.kia_one PySem.W.kitx_tuple I.kIn ⟨o, h1, h2⟩ e (fun z => nomatch z) h
  | @dK a kvs ea =>
    cases (show u = Value.ref a from rx)
    obtain ⟨_, _, vs, _, p⟩ := (show ObjOk X.prog X.w H s.heap a (.dK kvs) from I.hok a _ ea)
    obtain ⟨o, es, ep, h1, h2, _⟩ := p
    exact PySem.W.kia_one PySem.W.kitx_dict I.kIn ⟨o, h1, h2.1⟩ e (fun z => nomatch z) h
  | @dT a kvs ea =>
    cases (show u = Value.ref a from rx)
    obtain ⟨_, _, xs, _, o, es, ep, h1, h2, _⟩ := (show ObjOk X.prog X.w H s.heap a (.dT kvs) from I.hok a _ ea)
    exact PySem.W.kia_one PySem.W.kitx_dict I.kIn ⟨o, h1, h2.1⟩ e (fun z => nomatch z) h
  | @ins a C dx fs ea cl ha hn htk hm =>
    cases (show u = Value.ref a from rx)
    obtain ⟨mA, O, _⟩ := ins_get I.hok ea
    obtain ⟨od, J, _⟩ := O.look
    exact PySem.W.kia_one (PySem.W.kitx_own (cl.get _) cl.hd ha hn htk hm) I.kIn J e (fun z => nomatch z) h
end
end L2

namespace L2
open PySem PySem.Spec PyProof.Rows

/-! ### room -/
structure Room (k : Nat) (A : Around) : Prop where
  hd : A.handled = none
  dp : A.depth + 3 * k + 5 < recursionLimit
  un : A.units + 16 * k + 200 < cLine
  gd : A.guards = some []
theorem Room.mono {j k : Nat} {A : Around} (r : Room k A) (h : j ≤ k) : Room j A := ⟨r.hd, by have := r.dp; omega, by have := r.un; omega, r.gd⟩
theorem Room.deeper {k : Nat} {A : Around} (r : Room (k + 1) A) (env : Env) : Room k (A.deeper env) :=
  ⟨r.hd, by have := r.dp; show A.depth + 1 + 3 * k + 5 < _; omega, by have := r.un; show A.units + 3 + 16 * k + 200 < _; omega, r.gd⟩
theorem Room.in1 {k : Nat} {A : Around} (r : Room (k + 1) A) : Room k A.in1 :=
  ⟨r.hd, by have := r.dp; show A.depth + 3 * k + 5 < _; omega, by have := r.un; show A.units + 1 + 16 * k + 200 < _; omega, r.gd⟩
theorem make_depth {A : Around} {C : Addr} {us : List Value} {kw : List (Str × Value)} : (A.under (.builtin "type.__call__" ⟨.ref C :: us, kw⟩)).depth = A.depth + 1 := by
  first | rfl | simp [Around.under, Code.weight, Code.isCreation, Code.isGuard, Code.isCaller, Code.frames, Code.isFrame, guardIds]
theorem make_units {A : Around} {C : Addr} {us : List Value} {kw : List (Str × Value)} : (A.under (.builtin "type.__call__" ⟨.ref C :: us, kw⟩)).units = A.units + 1 := by
  first | rfl | simp [Around.under, Code.cUnits, Code.frames, Code.isFrame]
theorem Room.make {k : Nat} {A : Around} (r : Room (k + 1) A) (C : Addr) (us : List Value) (kw : List (Str × Value)) : Room k (A.under (.builtin "type.__call__" ⟨.ref C :: us, kw⟩)) :=
  ⟨r.hd, by have := r.dp; rw [make_depth]; omega, by have := r.un; rw [make_units]; omega, by first | exact r.gd | (simpa [Around.under, Code.guards, Code.isGuard, guardIds, pushGuards] using r.gd)⟩
theorem Room.depth {k : Nat} {A : Around} (r : Room k A) : A.depth < recursionLimit := by have := r.dp; omega
theorem Room.units {k : Nat} {A : Around} (r : Room k A) : A.units + 64 < cLine := by have := r.un; omega
theorem Room.units0 {k : Nat} {A : Around} (r : Room k A) : A.units < cLine := by have := r.un; omega

/-! ### argument lists and displays -/
def tNil : TA := fun _ H Q => Q [] H
def tCons (ta : TE) (tr : TA) : TA := fun σ H Q => ta σ H fun x H1 => tr σ H1 fun xs H2 => Q (x :: xs) H2
section
variable {X : Cx} {e : Expr} {es : List Expr} {te : TE} {t : TA} {pos : Pos}
theorem pa_nil : PA X [] tNil := fun _ _ _ _ H Q I h => Calls.spliced_nil ⟨[], H, I, .nil, h⟩
theorem pa_cons (ha : PE X e te) (hr : PA X es t) (hs : starEach (e :: es) X.env = (false, eval e X.env) :: starEach es X.env := by rfl) : PA X (e :: es) (tCons te t) := by
  intro pos pins s σ H Q I h
  rw [hs]
  show wpAny _ _ (spliced ((false, eval e X.env) :: backTo pos (starEach es X.env))) _ _ s
  refine Calls.spliced_cons (thn (ha pins s σ H _ I h) fun u s1 ⟨x, H1, I1, r1, q1⟩ => ?_)
  exact thn (hr pos pins s1 σ H1 _ I1 q1) fun us s2 ⟨xs, H2, I2, r2, q2⟩ => ⟨x :: xs, H2, I2, .cons r1 r2, q2⟩

/-- a tuple, a list of written items -/
def tTup (t : TA) : TE := fun σ H Q => t σ H fun xs H1 => xs.length ≤ sizeLine ∧ ∀ p, H1 p = none → Q (.ref p) (upd H1 p (.tup xs))
def tLst (t : TA) : TE := fun σ H Q => t σ H fun xs H1 => xs.length ≤ sizeLine ∧ ∀ p, H1 p = none → Q (.ref p) (upd H1 p (.lst xs))
theorem pe_tup {x1} (h : PA X es t) : PE X (.Tuple es x1 pos) (tTup t) := by
  intro pins s σ H Q I hq
  refine wpAny_Tuple_spliced (thn (h pos pins s σ H _ I hq) fun us s1 ⟨xs, H1, I1, r, z, q⟩ => ⟨by rw [← r.length]; exact z, ?_⟩)
  have hf : H1 s1.heap.objs.size = none := I1.hok.fresh (Nat.le_refl _)
  refine ⟨.ref s1.heap.objs.size, upd H1 s1.heap.objs.size (.tup xs), I1.laid (t' := s1.toks) (fun b u e => Heap.get?_push_of_some _ e) (Nat.le_refl _) ?_, rfl, q _ hf⟩
  exact ⟨z, us, r, ⟨_, Heap.get?_push_size _ rfl, rfl, _, rfl⟩⟩
theorem pe_lst (h : PA X es t) : PE X (.List es pos) (tLst t) := by
  intro pins s σ H Q I hq
  refine wpAny_List_spliced (thn (h pos pins s σ H _ I hq) fun us s1 ⟨xs, H1, I1, r, z, q⟩ => ⟨by rw [← r.length]; exact z, ?_⟩)
  have hf : H1 s1.heap.objs.size = none := I1.hok.fresh (Nat.le_refl _)
  refine ⟨.ref s1.heap.objs.size, upd H1 s1.heap.objs.size (.lst xs), I1.laid (t' := s1.toks) (fun b u e => Heap.get?_push_of_some _ e) (Nat.le_refl _) ?_, rfl, q _ hf⟩
  exact ⟨z, us, 0, r, Heap.get?_push_size _ rfl⟩
end

/-! ### what a def promises -/
/-- a def's promise: the bound arguments in the parameters' order, the heap, the wanted end, the wanted exception -/
abbrev Sp := List V → Hp → VK → XK → Prop
/-- how an exception lies behind a call (file 08 gives it): the callers' frames, abstract heap and state ahead of the call, the wish, the exception, the state -/
abbrev CXT := List Env → Hp → Shared → XK → Value → Shared → Prop

/-- the state at a call -/
structure Env0 (P : Program) (w : World) (K : PySem.W.Frag) (mg : Str → Option Value) (base : Heap) (A : Around) (outer : List Env) (s : Shared) (H : Hp) : Prop where
  frames : A.frames = some outer
  mod : Mod K mg base
  bs : ∀ b o, base.get? b = some o → s.heap.get? b = some o ∧ H b = none
  bsz : base.objs.size ≤ s.heap.objs.size
  funs : s.heap.FunFrames base outer
  frf : ∀ b ∈ frs outer, H b = none
  hok : HOk P w H s.heap
  bare : AllBare s.gens
/-- a call's end -/
def CE (outer : List Env) (P : Program) (w : World) (H : Hp) (s : Shared) (Q : VK) (u : Value) (s' : Shared) : Prop :=
  ∃ v H', s'.os = s.os ∧ AllBare s'.gens ∧ Un (frs outer) [] H H' s.heap s'.heap ∧ HOk P w H' s'.heap ∧ RelV v u ∧ Q v H'
def CR (CX : CXT) (outer : List Env) (P : Program) (w : World) (H : Hp) (s : Shared) (Q : VK) (E : XK) (r : Result) (s' : Shared) : Prop :=
  match r with
  | .ok (.ret u) => CE outer P w H s Q u s'
  | .ok _ => False
  | .error e => CX outer H s E e s'
structure FnOk (P : Program) (w : World) (K : PySem.W.Frag) (mg : Str → Option Value) (base : Heap) (CX : CXT) (k : Nat) (f : Addr) (fd : FuncData) (ps : List Str) (sp : Sp) : Prop where
  len : ∀ vs H Q E, sp vs H Q E → vs.length = ps.length
  run : ∀ (A : Around) (outer : List Env) (s : Shared) (H : Hp) (args : Args) (us : List Value) (vs : List V) (Q : VK) (E : XK), Room k A → Env0 P w K mg base A outer s H → BindsTo s fd args (ps.zip us) → Vals vs us → sp vs H Q E →
    codeAny (model P w) A (.call (.ref f) args) (CR CX outer P w H s Q E) s
theorem FnOk.mono {P : Program} {w : World} {K : PySem.W.Frag} {mg : Str → Option Value} {base : Heap} {CX : CXT} {j k : Nat} {f : Addr} {fd : FuncData} {ps : List Str} {sp : Sp} (F : FnOk P w K mg base CX j f fd ps sp) (h : j ≤ k) :
    FnOk P w K mg base CX k f fd ps sp := ⟨F.len, fun A outer s H args us vs Q E hr => F.run A outer s H args us vs Q E (hr.mono h)⟩
/-- a weaker promise -/
theorem FnOk.imp {P : Program} {w : World} {K : PySem.W.Frag} {mg : Str → Option Value} {base : Heap} {CX : CXT} {k : Nat} {f : Addr} {fd : FuncData} {ps : List Str} {sp sp' : Sp} (F : FnOk P w K mg base CX k f fd ps sp)
    (h : ∀ vs H Q E, sp' vs H Q E → sp vs H Q E) : FnOk P w K mg base CX k f fd ps sp' :=
  ⟨fun vs H Q E q => F.len vs H Q E (h _ _ _ _ q), fun A outer s H args us vs Q E hr he hb hv hs => F.run A outer s H args us vs Q E hr he hb hv (h _ _ _ _ hs)⟩

theorem Env0.make {P : Program} {w : World} {K : PySem.W.Frag} {mg : Str → Option Value} {base : Heap} {A : Around} {outer : List Env} {s : Shared} {H : Hp} (e : Env0 P w K mg base A outer s H) (C : Addr) (us : List Value) (kw : List (Str × Value)) :
    Env0 P w K mg base (A.under (.builtin "type.__call__" ⟨.ref C :: us, kw⟩)) outer s H := ⟨by first | exact e.frames | (simpa [Around.under, Code.envs, Code.isFrame, pushEnvs] using e.frames), e.mod, e.bs, e.bsz, e.funs, e.frf, e.hok, e.bare⟩
theorem Env0.in1 {P : Program} {w : World} {K : PySem.W.Frag} {mg : Str → Option Value} {base : Heap} {A : Around} {outer : List Env} {s : Shared} {H : Hp} (e : Env0 P w K mg base A outer s H) :
    Env0 P w K mg base A.in1 outer s H := ⟨e.frames, e.mod, e.bs, e.bsz, e.funs, e.frf, e.hok, e.bare⟩

section
variable {X : Cx} {pins : List (Addr × Obj)} {σ : St} {H : Hp} {s s' : Shared}
/-- from a body: what a callee wants -/
theorem Inv.env0 (I : Inv X pins σ H s) : Env0 X.prog X.w X.K X.mg X.base X.A X.stack s H :=
  ⟨I.ok.frames, I.ok.mod, I.bs, Nat.le_trans I.ok.bsz I.sz, I.stack, I.stkFree, I.hok, I.bare⟩
/-- behind a call -/
theorem Inv.after {Q : VK} {u : Value} (I : Inv X pins σ H s) (h : CE X.stack X.prog X.w H s Q u s') : EP X pins σ Q u s' := by
  obtain ⟨v, H', os, bare, un, hok, r, q⟩ := h
  obtain ⟨hh, g, d, t, os'⟩ := s'
  obtain rfl : os' = s.os := os
  exact ⟨v, H', I.call (h' := hh) (g' := g) (d' := d) (t' := t) (ch := []) un hok bare (fun b z => absurd z (by simp)), r, q⟩
end

/-! ### calls -/
/-- f(..): the written arguments, then the defaults dvs; E: what is wanted of an exception -/
def tCall (sp : Sp) (dvs : List V) (E : XK) (t : TA) : TE := fun σ H Q => t σ H fun vs H1 => sp (vs ++ dvs) H1 Q E
/-- o.m(..) of an instance of the class at C -/
def tMeth (C : Addr) (m : Str) (sp : Sp) (dvs : List V) (E : XK) (ta : TE) (t : TA) : TE := fun σ H Q => ta σ H fun x H1 => ∃ a dx fs, x = .ref a ∧ H1 a = some (.ins C dx fs) ∧ fs.lookup m = none ∧
  t σ H1 fun vs H2 => sp (x :: (vs ++ dvs)) H2 Q E
/-- C(..): a new instance and its dict, then __init__ -/
def tMake (C : Addr) (sp : Sp) (dvs : List V) (E : XK) (t : TA) : TE := fun σ H Q => t σ H fun vs H1 => ∀ x dx, H1 x = none → H1 dx = none → dx ≠ x →
  sp (.ref x :: (vs ++ dvs)) (upd (upd H1 dx (.own x)) x (.ins C dx [])) (fun v H2 => v = .non ∧ Q (.ref x) H2) E

/-- how the parameters are bound: us the positional arguments, kw the keywords' values by name, ds the defaults that fill up -/
def Binds (K : PySem.W.Frag) (fd : FuncData) (ps : List Str) (ds : List Value) : Prop :=
  ∀ (s : Shared) (us : List Value), K.In s.heap → (us ++ ds).length = ps.length → BindsTo s fd ⟨us, []⟩ (ps.zip (us ++ ds))
/-- every parameter is given -/
theorem Binds.all {K : PySem.W.Frag} {fd : FuncData} {ps : List Str} (h : ∀ us : List Value, us.length = ps.length → bindArgs fd ⟨us, []⟩ = pure (ps.zip us)) : Binds K fd ps [] := fun s us _ hl => by
  rw [List.append_nil] at hl ⊢
  exact .of_eq (h us hl)

/-- an exception of a callee reaches what this body wants of exceptions -/
def Passes (CX : CXT) (X : Cx) (E : XK) : Prop := ∀ (pins : List (Addr × Obj)) (σ : St) (H : Hp) (s : Shared) (e : Value) (s' : Shared), Inv X pins σ H s → CX X.stack H s E e s' → X.xe e s'

section
variable {X : Cx} {CX : CXT} {k : Nat} {f C : Addr} {fd : FuncData} {ps : List Str} {sp : Sp} {dvs : List V} {ds : List Value} {E : XK} {x m : Str} {p pos apos : Pos} {e o : Expr} {es : List Expr} {ta : TE} {t : TA}

/-- the callee runs -/
theorem run_fn {pins : List (Addr × Obj)} {σ : St} {H : Hp} {s : Shared} {Q : VK} {us : List Value} {vs : List V} (F : FnOk X.prog X.w X.K X.mg X.base CX k f fd ps sp) (hr : Room k X.A) (hb : Binds X.K fd ps ds) (hd : Vals dvs ds) (hx : Passes CX X E)
    (I : Inv X pins σ H s) (r : Vals vs us) (h : sp (vs ++ dvs) H Q E) : wpAny (model X.prog X.w) X.A (call (.ref f) us) (EP X pins σ Q) X.xe s := by
  have r2 : Vals (vs ++ dvs) (us ++ ds) := r.append hd
  have hl : (us ++ ds).length = ps.length := by rw [← r2.length]; exact F.len _ _ _ _ h
  refine wpAny_call (codeAny_mono (F.run X.A X.stack s H ⟨us, []⟩ (us ++ ds) (vs ++ dvs) Q E hr I.env0 (hb s us I.kIn hl) r2 h) fun r s' hq => ?_)
  cases r with
  | error e => exact hx pins σ H s e s' I hq
  | ok fl =>
    cases fl with
    | ret u => exact I.after hq
    | next => exact False.elim hq
    | brk => exact False.elim hq
    | cont => exact False.elim hq

theorem pe_call (F : FnOk X.prog X.w X.K X.mg X.base CX k f fd ps sp) (hr : Room k X.A) (hg : Gl X x) (hm : X.mg x = some (.ref f)) (hk : PySem.W.keepIn X.K (.ref f) = true) (hb : Binds X.K fd ps ds) (hd : Vals dvs ds) (hx : Passes CX X E)
    (ha : PA X (e :: es) t) (hdb : (x == ("__debug__" : Str)) = false := by decide) (he : starEach (e :: es) X.env = (false, eval e X.env) :: starEach es X.env := by rfl) (hpl : (backTo pos (starEach es X.env)).any (·.1) = false := by rfl) :
    PE X (.Call (.Name x p) (e :: es) [] pos) (tCall sp dvs E t) := by
  intro pins s σ H Q I h
  refine wpAny_Call_Name_kw (ld_glob I hg hm ?_ hdb)
  refine PySem.W.callWith_K (h₀ := X.base) I.ok.mod.kin hk (thn (ha pos pins s σ H _ I h) fun us s1 ⟨vs, H1, I1, r, q⟩ => ⟨I1.kIn, ?_⟩) he hpl
  exact run_fn F hr hb hd hx I1 r q
theorem pe_call0 (F : FnOk X.prog X.w X.K X.mg X.base CX k f fd ps sp) (hr : Room k X.A) (hg : Gl X x) (hm : X.mg x = some (.ref f)) (hk : PySem.W.keepIn X.K (.ref f) = true) (hb : Binds X.K fd ps ds) (hd : Vals dvs ds) (hx : Passes CX X E)
    (hdb : (x == ("__debug__" : Str)) = false := by decide) : PE X (.Call (.Name x p) [] [] pos) (tCall sp dvs E tNil) := by
  intro pins s σ H Q I h
  refine wpAny_Call_Name_kw (ld_glob I hg hm ?_ hdb)
  exact PySem.W.callWith_K0 I.kIn hk (run_fn (us := []) F hr hb hd hx I .nil h)

/-- o.m(e, ..) -/
theorem pe_meth {pl : Sem Bool} (he : PE X o ta) (c : Cls X.K C) (hm : Meth X.K C m f) (F : FnOk X.prog X.w X.K X.mg X.base CX k f fd ps sp) (hr : Room k X.A) (hb : Binds X.K fd ps ds) (hd : Vals dvs ds) (hx : Passes CX X E) (ha : PA X (e :: es) t)
    (hst : starEach (e :: es) X.env = (false, eval e X.env) :: starEach es X.env := by rfl) (hpl : (backTo pos (starEach es X.env)).any (·.1) = false := by rfl)
    (ht : eval (.Call (.Attribute o m apos) (e :: es) [] pos) X.env = (do
      let ov ← eval o X.env
      standAt apos.atName
      let (f, first) ← holding [ov] (getMethod ov m pl)
      callWith pos f first (backTo pos (starEach (e :: es) X.env)) (backToKw pos (keywordEach [] X.env))) := by rfl) :
    PE X (.Call (.Attribute o m apos) (e :: es) [] pos) (tMeth C m sp dvs E ta t) := by
  intro pins s σ H Q I h
  refine PySem.W.methodCall_KW (pl := pl) (thn (he pins s σ H _ I h) fun u s1 ⟨x, H1, I1, rx, a, dx, fs, ex, ea, l, q⟩ => ?_) ht
  subst ex
  obtain rfl : u = Value.ref a := rx
  refine getmeth_ok I1 ea c hm l ?_
  refine PySem.W.callWith_K (first := [.ref a]) (h₀ := X.base) I.ok.mod.kin hm.kp (thn (ha pos pins s1 σ H1 _ I1 q) fun us s2 ⟨vs, H2, I2, r, q2⟩ => ⟨I2.kIn, ?_⟩) hst hpl
  exact run_fn (us := .ref a :: us) (vs := .ref a :: vs) F hr hb hd hx I2 (.cons rfl r) q2
/-- o.m() -/
theorem pe_meth0 {pl : Sem Bool} (he : PE X o ta) (c : Cls X.K C) (hm : Meth X.K C m f) (F : FnOk X.prog X.w X.K X.mg X.base CX k f fd ps sp) (hr : Room k X.A) (hb : Binds X.K fd ps ds) (hd : Vals dvs ds) (hx : Passes CX X E)
    (ht : eval (.Call (.Attribute o m apos) [] [] pos) X.env = (do
      let ov ← eval o X.env
      standAt apos.atName
      let (f, first) ← holding [ov] (getMethod ov m pl)
      callWith pos f first (backTo pos (starEach [] X.env)) (backToKw pos (keywordEach [] X.env))) := by rfl) :
    PE X (.Call (.Attribute o m apos) [] [] pos) (tMeth C m sp dvs E ta tNil) := by
  intro pins s σ H Q I h
  refine PySem.W.methodCall_KW (pl := pl) (thn (he pins s σ H _ I h) fun u s1 ⟨x, H1, I1, rx, a, dx, fs, ex, ea, l, q⟩ => ?_) ht
  subst ex
  obtain rfl : u = Value.ref a := rx
  refine getmeth_ok I1 ea c hm l ?_
  exact PySem.W.callWith_K0 (first := [.ref a]) I1.kIn hm.kp (run_fn (us := [.ref a]) (vs := [.ref a]) F hr hb hd hx I1 (.cons rfl .nil) q)

/-- what a class must have to be made -/
structure Mk (K : PySem.W.Frag) (C f : Addr) : Prop where
  makes : PySem.W.makesIn K C = true
  init : PySem.W.findIn K (.ref C) "__init__" = some (some (.ref f))
  fn : PySem.W.isFn K (.ref f) = true
  kp : PySem.W.keepIn K (.ref C) = true

theorem run_make {pins : List (Addr × Obj)} {σ : St} {H : Hp} {s : Shared} {Q : VK} {us : List Value} {vs : List V} (M : Mk X.K C f) (F : FnOk X.prog X.w X.K X.mg X.base CX k f fd ps sp) (hr : Room (k + 1) X.A) (hb : Binds X.K fd ps ds) (hd : Vals dvs ds)
    (hx : Passes CX X E) (I : Inv X pins σ H s) (r : Vals vs us)
    (h : ∀ x dx, H x = none → H dx = none → dx ≠ x → sp (.ref x :: (vs ++ dvs)) (upd (upd H dx (.own x)) x (.ins C dx [])) (fun v H2 => v = .non ∧ Q (.ref x) H2) E) :
    wpAny (model X.prog X.w) X.A (call (.ref C) us) (EP X pins σ Q) X.xe s := by
  have hq := h (s.heap.objs.size + 1) s.heap.objs.size (I.hok.fresh (Nat.le_succ _)) (I.hok.fresh (Nat.le_refl _)) (Nat.ne_of_lt (Nat.lt_succ_self _))
  have I2 := Inv.made (C := C) I
  have r2 : Vals (V.ref (s.heap.objs.size + 1) :: (vs ++ dvs)) (Value.ref (s.heap.objs.size + 1) :: (us ++ ds)) := .cons rfl (r.append hd)
  have hl : (Value.ref (s.heap.objs.size + 1) :: us ++ ds).length = ps.length := by
    have e := r2.length
    rw [F.len _ _ _ _ hq] at e
    exact e.symm
  refine wpAny_call (make_map (f := f) I.kIn M.makes M.init (beq_iff_eq.mp M.fn) (codeAny_mono (F.run _ X.stack _ _ ⟨Value.ref (s.heap.objs.size + 1) :: us, []⟩ (Value.ref (s.heap.objs.size + 1) :: (us ++ ds)) _ _ E (hr.make C us [])
    (I2.env0.make C us []) (hb _ (Value.ref (s.heap.objs.size + 1) :: us) I2.kIn hl) r2 hq) fun r s' hq' => ?_))
  cases r with
  | error e => exact hx pins σ _ _ e s' I2 hq'
  | ok fl =>
    cases fl with
    | ret u =>
      obtain ⟨v, H', I3, rv, ev, q3⟩ := I2.after hq'
      subst ev
      exact ⟨rv, ⟨V.ref (s.heap.objs.size + 1), H', I3, rfl, q3⟩⟩
    | next => exact False.elim hq'
    | brk => exact False.elim hq'
    | cont => exact False.elim hq'
theorem pe_make (M : Mk X.K C f) (F : FnOk X.prog X.w X.K X.mg X.base CX k f fd ps sp) (hr : Room (k + 1) X.A) (hg : Gl X x) (hm : X.mg x = some (.ref C)) (hb : Binds X.K fd ps ds) (hd : Vals dvs ds) (hx : Passes CX X E)
    (ha : PA X (e :: es) t) (hdb : (x == ("__debug__" : Str)) = false := by decide) (he : starEach (e :: es) X.env = (false, eval e X.env) :: starEach es X.env := by rfl) (hpl : (backTo pos (starEach es X.env)).any (·.1) = false := by rfl) :
    PE X (.Call (.Name x p) (e :: es) [] pos) (tMake C sp dvs E t) := by
  intro pins s σ H Q I h
  refine wpAny_Call_Name_kw (ld_glob I hg hm ?_ hdb)
  refine PySem.W.callWith_K (h₀ := X.base) I.ok.mod.kin M.kp (thn (ha pos pins s σ H _ I h) fun us s1 ⟨vs, H1, I1, r, q⟩ => ⟨I1.kIn, ?_⟩) he hpl
  exact run_make M F hr hb hd hx I1 r q
theorem pe_make0 (M : Mk X.K C f) (F : FnOk X.prog X.w X.K X.mg X.base CX k f fd ps sp) (hr : Room (k + 1) X.A) (hg : Gl X x) (hm : X.mg x = some (.ref C)) (hb : Binds X.K fd ps ds) (hd : Vals dvs ds) (hx : Passes CX X E)
    (hdb : (x == ("__debug__" : Str)) = false := by decide) : PE X (.Call (.Name x p) [] [] pos) (tMake C sp dvs E tNil) := by
  intro pins s σ H Q I h
  refine wpAny_Call_Name_kw (ld_glob I hg hm ?_ hdb)
  exact PySem.W.callWith_K0 I.kIn M.kp (run_make (us := []) M F hr hb hd hx I .nil h)
end

/-! ### keywords -/
/-- the values of the keywords, from the left -/
def PK (X : Cx) (kws : List Keyword) (t : TA) : Prop :=
  ∀ (pos : Pos) (pins : List (Addr × Obj)) (s : Shared) (σ : St) (H : Hp) (Q : List V → Hp → Prop), Inv X pins σ H s → t σ H Q → wpAny (model X.prog X.w) X.A (evalAll ((backToKw pos (keywordEach kws X.env)).map (·.2))) (AP X pins σ Q) X.xe s
section
variable {X : Cx} {CX : CXT} {k : Nat} {f C : Addr} {fd : FuncData} {ps ks : List Str} {sp : Sp} {E : XK} {x m : Str} {p pos apos kpos : Pos} {e o : Expr} {es : List Expr} {kws : List Keyword} {te ta : TE} {t tk : TA} {nm : Option Str}
theorem pk_nil : PK X [] tNil := fun _ _ _ _ H Q I h => wpAny_evalAll_nil ⟨[], H, I, .nil, h⟩
theorem pk_cons (ha : PE X e te) (hr : PK X kws t) : PK X (⟨nm, e, kpos⟩ :: kws) (tCons te t) := by
  intro pos pins s σ H Q I h
  show wpAny _ _ (evalAll ((do let v ← eval e X.env; standAt pos; pure v) :: (backToKw pos (keywordEach kws X.env)).map (·.2))) _ _ s
  refine wpAny_evalAll_cons (wpAny_bind (thn (ha pins s σ H _ I h) fun u s1 ⟨x, H1, I1, r1, q1⟩ => wpAny_bind (wpAny_standAt (wpAny_pure ?_))))
  exact thn (hr pos pins s1 σ H1 _ I1 q1) fun us s2 ⟨xs, H2, I2, r2, q2⟩ => ⟨x :: xs, H2, I2, .cons r1 r2, q2⟩

/-- how a call with keywords binds: g puts the positional values us and the keywords' values ws (names ks) in the parameters' order, defaults among them -/
structure KBinds (K : PySem.W.Frag) (fd : FuncData) (ps ks : List Str) (g : List Value → List Value → List Value) (gV : List V → List V → List V) : Prop where
  to : ∀ (s : Shared) (us ws : List Value), K.In s.heap → (g us ws).length = ps.length → BindsTo s fd ⟨us, ks.zip ws⟩ (ps.zip (g us ws))
  rel : ∀ {vs : List V} {us : List Value} {zs : List V} {ws : List Value}, Vals vs us → Vals zs ws → Vals (gV vs zs) (g us ws)
def tCallK (sp : Sp) (gV : List V → List V → List V) (E : XK) (t tk : TA) : TE := fun σ H Q => t σ H fun vs H1 => tk σ H1 fun zs H2 => sp (gV vs zs) H2 Q E
variable {g : List Value → List Value → List Value} {gV : List V → List V → List V}
theorem run_fnk {pins : List (Addr × Obj)} {σ : St} {H : Hp} {s : Shared} {Q : VK} {us ws : List Value} {vs zs : List V} (F : FnOk X.prog X.w X.K X.mg X.base CX k f fd ps sp) (hr : Room k X.A) (hb : KBinds X.K fd ps ks g gV) (hx : Passes CX X E)
    (I : Inv X pins σ H s) (r : Vals vs us) (rz : Vals zs ws) (h : sp (gV vs zs) H Q E) : wpAny (model X.prog X.w) X.A (call (.ref f) us (ks.zip ws)) (EP X pins σ Q) X.xe s := by
  have r2 := hb.rel r rz
  have hl : (g us ws).length = ps.length := by rw [← r2.length]; exact F.len _ _ _ _ h
  refine wpAny_call (codeAny_mono (F.run X.A X.stack s H ⟨us, ks.zip ws⟩ (g us ws) (gV vs zs) Q E hr I.env0 (hb.to s us ws I.kIn hl) r2 h) fun r s' hq => ?_)
  cases r with
  | error e => exact hx pins σ H s e s' I hq
  | ok fl =>
    cases fl with
    | ret u => exact I.after hq
    | next => exact False.elim hq
    | brk => exact False.elim hq
    | cont => exact False.elim hq
/-- f(e, .., k = v, ..) -/
theorem pe_callK (F : FnOk X.prog X.w X.K X.mg X.base CX k f fd ps sp) (hr : Room k X.A) (hg : Gl X x) (hm : X.mg x = some (.ref f)) (hk : PySem.W.keepIn X.K (.ref f) = true) (hb : KBinds X.K fd ps ks g gV) (hx : Passes CX X E)
    (ha : PA X (e :: es) t) (hkw : PK X kws tk) (hall : (backToKw pos (keywordEach kws X.env)).all (·.1.isSome) = true := by rfl) (hks : (backToKw pos (keywordEach kws X.env)).filterMap (·.1) = ks := by rfl)
    (hdb : (x == ("__debug__" : Str)) = false := by decide) (he : starEach (e :: es) X.env = (false, eval e X.env) :: starEach es X.env := by rfl)
    (hpl : ((backTo pos (starEach (e :: es) X.env)).any (·.1) || (backToKw pos (keywordEach kws X.env)).any (·.1.isNone)) = false := by rfl) :
    PE X (.Call (.Name x p) (e :: es) kws pos) (tCallK sp gV E t tk) := by
  intro pins s σ H Q I h
  refine wpAny_Call_Name_kw (ld_glob I hg hm ?_ hdb)
  refine PySem.W.callWith_KW (h₀ := X.base) I.ok.mod.kin hk hall (thn (ha pos pins s σ H _ I h) fun us s1 ⟨vs, H1, I1, r, q⟩ => ?_) hpl he
  refine thn (hkw pos pins s1 σ H1 _ I1 q) fun ws s2 ⟨zs, H2, I2, rz, q2⟩ => ⟨I2.kIn, ?_⟩
  rw [hks]
  exact run_fnk F hr hb hx I2 r rz q2
end

/-! ### a def's body keeps its promise -/
/-- names: the parameters first -/
structure FnScope (N P : List Str) (sc : Scope) : Prop where
  kind : sc.kind = .function
  co : sc.isCoroutine = false
  gen : sc.isGenerator = false
  nd : N.Nodup
  pre : N.take P.length = P
  par : ∀ x ∈ P, sc.names.lookup x = some .local ∨ sc.names.lookup x = some .cell
  nofree : ∀ y ∈ sc.names, y.2 ≠ .free

theorem bindL_out {kindOf : Str → Option NameKind} {x : Str} : ∀ {binds : List (Str × Value)} {m : Str → Option Value}, (∀ v, (x, v) ∉ binds) → bindL kindOf binds m x = m x
  | [], _, _ => rfl
  | (n, v) :: r, m, h => by
    unfold bindL
    rw [bindL_out fun w hw => h w (List.mem_cons_of_mem _ hw)]
    split
    · have : x ≠ n := by rintro rfl; exact h v List.mem_cons_self
      simp [this]
    · rfl
theorem bindC_out {kindOf : Str → Option NameKind} {x : Str} : ∀ {binds : List (Str × Value)} {m : Str → Option Value}, (∀ v, (x, v) ∉ binds) → bindC kindOf binds m x = m x
  | [], _, _ => rfl
  | (n, v) :: r, m, h => by
    unfold bindC
    rw [bindC_out fun w hw => h w (List.mem_cons_of_mem _ hw)]
    split
    · rfl
    · have : x ≠ n := by rintro rfl; exact h v List.mem_cons_self
      simp [this]
theorem bindL_get {kindOf : Str → Option NameKind} {x : Str} {v : Value} : ∀ {P : List Str} {vs : List Value} {i : Nat} {m : Str → Option Value}, P.Nodup → P[i]? = some x → vs[i]? = some v → kindOf x = some .local →
    bindL kindOf (P.zip vs) m x = some v
  | [], _, _, _, _, h, _, _ => by simp at h
  | _ :: _, [], _, _, _, _, h, _ => by simp at h
  | p :: P, w :: vs, 0, m, nd, h1, h2, hk => by
    simp at h1 h2; subst h1; subst h2
    show bindL kindOf ((p, w) :: P.zip vs) m p = _
    unfold bindL
    rw [bindL_out fun v hv => (List.nodup_cons.mp nd).1 (List.of_mem_zip hv).1, if_pos hk]
    simp
  | p :: P, w :: vs, i + 1, m, nd, h1, h2, hk => by
    show bindL kindOf ((p, w) :: P.zip vs) m x = _
    unfold bindL
    exact bindL_get (i := i) (List.nodup_cons.mp nd).2 (by simpa using h1) (by simpa using h2) hk
theorem bindC_get {kindOf : Str → Option NameKind} {x : Str} {v : Value} : ∀ {P : List Str} {vs : List Value} {i : Nat} {m : Str → Option Value}, P.Nodup → P[i]? = some x → vs[i]? = some v → kindOf x ≠ some .local →
    bindC kindOf (P.zip vs) m x = some v
  | [], _, _, _, _, h, _, _ => by simp at h
  | _ :: _, [], _, _, _, _, h, _ => by simp at h
  | p :: P, w :: vs, 0, m, nd, h1, h2, hk => by
    simp at h1 h2; subst h1; subst h2
    show bindC kindOf ((p, w) :: P.zip vs) m p = _
    unfold bindC
    rw [bindC_out fun v hv => (List.nodup_cons.mp nd).1 (List.of_mem_zip hv).1, if_neg hk]
    simp
  | p :: P, w :: vs, i + 1, m, nd, h1, h2, hk => by
    show bindC kindOf ((p, w) :: P.zip vs) m x = _
    unfold bindC
    exact bindC_get (i := i) (List.nodup_cons.mp nd).2 (by simpa using h1) (by simpa using h2) hk

/-- the names' values at the entry -/
def start (N : List Str) (vs : List V) : St := vs.map some ++ List.replicate (N.length - vs.length) none

/-- the context of a def's body, at its entry; an exception leaves the frame, then lies as CX says -/
def cxOf (CX : CXT) (P : Program) (w : World) (K : PySem.W.Frag) (mg : Str → Option Value) (base : Heap) (N : List Str) (qual : Str) (scope : Scope) (f : Addr) (cd : Value) (A : Around) (outer : List Env) (s : Shared) (H : Hp) (E : XK) : Cx where
  prog := P
  w := w
  K := K
  mg := mg
  base := base
  A := A.deeper (envOfC qual scope s.heap.objs.size f cd)
  N := N
  s₀ := s
  H₀ := H
  env := envOfC qual scope s.heap.objs.size f cd
  outer := outer
  stack := envOfC qual scope s.heap.objs.size f cd :: outer
  ex := []
  calm := true
  fn := fun _ => true
  pn := []
  xe := fun e s' => wpAny (model P w) (A.deeper (envOfC qual scope s.heap.objs.size f cd)) (leaving (envOfC qual scope s.heap.objs.size f cd) e) (fun _ s'' => CX outer H s E e s'') (fun e' s'' => CX outer H s E e' s'') s'

theorem cell_has {sc : Scope} {n : Nat} {x : Str} (h : sc.names.lookup x = some .cell) : ∃ c, (cellsFrom n sc.names []).lookup x = some c := by
  have q := PySem.W.cellsFrom_some sc.names n [] (.inl h)
  exact Option.isSome_iff_exists.mp q

theorem inv_start {CX : CXT} {P : Program} {w : World} {K : PySem.W.Frag} {mg : Str → Option Value} {base : Heap} {N ps : List Str} {qual : Str} {scope : Scope} {f : Addr} {cd : Value} {A : Around} {outer : List Env} {s s1 : Shared} {H : Hp} {E : XK} {us : List Value} {vs : List V}
    (S : FnScope N ps scope) (hd : A.handled = none) (e0 : Env0 P w K mg base A outer s H) (hl : vs.length = ps.length) (r : Vals vs us)
    (x : InCallC s s.heap.objs.size (bindL (envOfC qual scope s.heap.objs.size f cd).kindOf (ps.zip us) fun _ => none) (cellsFrom (s.heap.objs.size + 1) scope.names []) (bindC (envOfC qual scope s.heap.objs.size f cd).kindOf (ps.zip us) fun _ => none) s1) :
    Inv (cxOf CX P w K mg base N qual scope f cd A outer s H E) [] (start N vs) H s1 := by
  have hpl : ps.length ≤ N.length := by have := congrArg List.length S.pre; rw [List.length_take] at this; omega
  obtain ⟨h1, tk, rfl, hk⟩ := x.done
  have noA : ∀ b : Addr, b ∉ (cxOf CX P w K mg base N qual scope f cd A outer s H E).ex := fun b z => absurd (show b ∈ ([] : List Addr) from z) (by simp)
  refine ⟨⟨e0.mod, S.kind, rfl, rfl, Nat.le_refl _, fun y z c h1 h2 => ?_, fun y hy => ?_, fun y c _ h => ?_, fun _ => hd, Around.frames_deeper e0.frames, .inr ⟨rfl, rfl⟩, fun b z => absurd z (noA b), e0.bs, e0.bsz, fun b _ _ => noA b, fun b z => absurd z (noA b), e0.funs, e0.frf⟩,
    rfl, e0.bare, Un.kept hk, ⟨_, x.toInCall.ns, fun i y v h1 h2 h3 => ?_⟩, fun y c h => ⟨_, x.cell y c h⟩, e0.hok.fresh (Nat.le_refl _), fun y c h => ?_, fun p hp => absurd (show p ∈ ([] : List (Addr × Obj)) from hp) (by simp), e0.hok.kept hk, ?_⟩
  · exact name_of_addr x.apart (PySem.mem_of_lookup h1) (PySem.mem_of_lookup h2)
  · have hy : scope.names.lookup y = some .cell ∨ scope.names.lookup y = some .free := hy
    rcases hy with hy | hy
    · exact cell_has hy
    · exact absurd rfl (S.nofree _ (PySem.mem_of_lookup hy))
  · exact Nat.le_of_lt (x.above y c (PySem.mem_of_lookup h))
  · have hi : i < vs.length := by
      unfold start at h2
      by_cases hi : i < vs.length
      · exact hi
      · rw [List.getElem?_append_right (by simpa using hi)] at h2
        rw [List.getElem?_replicate] at h2
        split at h2 <;> cases h2
    have ha : vs[i]? = some v := by
      unfold start at h2
      rw [List.getElem?_append_left (by simpa using hi), List.getElem?_map] at h2
      cases e : vs[i]? with
      | none => rw [e] at h2; cases h2
      | some a => rw [e] at h2; cases h2; rfl
    obtain ⟨u, hu, rv⟩ := r.get ha
    have hp : ps[i]? = some y := by
      rw [← S.pre, List.getElem?_take_of_lt (by omega)]; exact h1
    have ndP : ps.Nodup := by rw [← S.pre]; exact S.nd.sublist (List.take_sublist _ _)
    refine ⟨u, rv, ?_⟩
    rcases S.par y (List.mem_of_getElem? hp) with k | k
    · exact .inl ⟨k, bindL_get ndP hp hu k⟩
    · obtain ⟨c, e⟩ := cell_has (n := s.heap.objs.size + 1) k
      refine .inr ⟨.inl k, c, e, ?_⟩
      have q := x.cell y c e
      rw [bindC_get ndP hp hu (by show scope.names.lookup y ≠ _; rw [k]; decide)] at q
      exact q
  · exact e0.hok.fresh (Nat.le_of_lt (x.above y c (PySem.mem_of_lookup h)))
  · unfold start
    show _ = N.length
    rw [List.length_append, List.length_map, List.length_replicate]
    omega

/-- THE RULE: a def (or a method) of the text, by its body. The body's reading t is chosen for each entry; it is run at the parameters' values -/
theorem fn_of {CX : CXT} {P : Program} {w : World} {K : PySem.W.Frag} {mg : Str → Option Value} {base : Heap} {k : Nat} {f : Addr} {name qual : Str} {params : Arguments} {body : List Stmt} {scope : Scope} {dV kV doc pm cdv ct oc : Value} {an od : Option Addr}
    {osl : Array (Option Value)} {N ps : List Str} {sp : Sp} (lk : K.lookup f = some ⟨oc, od, .func (PySem.W.fnOf name qual params body scope dV kV doc pm an cdv ct), osl⟩) (hcd : PySem.W.codeIn K cdv qual = true) (S : FnScope N ps scope)
    (len : ∀ vs H Q E, sp vs H Q E → vs.length = ps.length)
    (hbody : ∀ (A : Around) (outer : List Env) (s : Shared) (H : Hp) (vs : List V) (Q : VK) (E : XK), Room k (A.deeper (envOfC qual scope s.heap.objs.size f cdv)) → sp vs H Q E →
      ∃ t, PSs (cxOf CX P w K mg base N qual scope f cdv A outer s H E) body t ∧ t { nx := fun _ H' => Q .non H', rt := Q } (start N vs) H) :
    FnOk P w K mg base CX (k + 1) f (PySem.W.fnOf name qual params body scope dV kV doc pm an cdv ct) ps sp := by
  refine ⟨len, fun A outer s H args us vs Q E hr e0 hb r hsp => ?_⟩
  have hl := len _ _ _ _ hsp
  have KX : K.In s.heap := e0.mod.kin.keeps fun b o e => (e0.bs b o e).1
  have lim : s.heap.NoLimit := e0.mod.nolimit.keeps fun b o e => (e0.bs b o e).1
  have hkind : ∀ y ∈ ps.zip us, scope.names.lookup y.1 = some .local ∨ (scope.names.lookup y.1 = some .cell ∧ ((cellsFrom (s.heap.objs.size + 1) scope.names []).lookup y.1).isSome = true) := fun ⟨n, v⟩ hy => by
    rcases S.par n (List.of_mem_zip hy).1 with q | q
    · exact .inl q
    · exact .inr ⟨q, PySem.W.cellsFrom_some _ _ _ (.inl q)⟩
  refine codeAny_call_function hr.depth (KX _ _ lk) rfl S.co S.gen rfl (PySem.W.codeRec_of KX hcd) (hb _ _ _ _ ?_)
  refine wpAny_newFunctionEnv_cells S.kind hkind fun env he s1 x => ?_
  subst he
  refine ⟨lim.keeps x.toInCall.keep, codeAny_func ?_⟩
  obtain ⟨t, ht, hq⟩ := hbody A outer s H vs Q E (hr.deeper _) hsp
  have I : Inv (cxOf CX P w K mg base N qual scope f cdv A outer s H E) [] (start N vs) H s1 := inv_start S hr.hd e0 hl r x
  refine wpAny_mono (ht [] s1 (start N vs) H _ I hq) (fun fl s' hs => ?_) fun e s' hs => hs
  have fin : ∀ {σ' : St} {H' : Hp} {v : V} {u : Value}, Inv (cxOf CX P w K mg base N qual scope f cdv A outer s H E) [] σ' H' s' → RelV v u → Q v H' → CE outer P w H s Q u s' :=
    fun {σ' H' v u} J rv q => ⟨v, H', J.os, J.bare, J.base, J.hok, rv, q⟩
  cases fl with
  | ret u =>
    obtain ⟨v, σ', H', J, rv, q⟩ := hs
    exact fin J rv q
  | next =>
    obtain ⟨σ', H', J, q⟩ := hs
    exact fin (v := V.non) (u := Value.none) J rfl q
  | brk =>
    obtain ⟨_, _, _, q⟩ := hs
    exact False.elim q
  | cont =>
    obtain ⟨_, _, _, q⟩ := hs
    exact False.elim q
end L2

namespace L2
open PySem PySem.Spec PyProof.Rows
section
variable {X : Cx} {x : Str} {p pos : Pos} {e : Expr} {es : List Expr} {t : TA} {id T : String} {r : List V → Hp → VK → Prop}

def tCB (r : List V → Hp → VK → Prop) (t : TA) : TE := fun σ H Q => t σ H fun vs H1 => r vs H1 Q
/-- f(e, ..), f a built-in function -/
theorem pe_callB (hc : CallR X (.builtin id) r) (hg : Gl X x) (hm : X.mg x = none) (hv : bootBuiltins x = some (.builtin id)) (ha : PA X (e :: es) t) (hn : x ≠ "__name__" := by decide) (hdb : (x == ("__debug__" : Str)) = false := by decide)
    (he : starEach (e :: es) X.env = (false, eval e X.env) :: starEach es X.env := by rfl) (hpl : (backTo pos (starEach es X.env)).any (·.1) = false := by rfl) : PE X (.Call (.Name x p) (e :: es) [] pos) (tCB r t) := by
  intro pins s σ H Q I h
  refine wpAny_Call_Name_kw (ld_blt I hg hm hv ?_ hn hdb)
  exact PyProof.Rows.callWith_builtin1 (thn (ha pos pins s σ H _ I h) fun us s1 ⟨vs, H1, I1, r1, q1⟩ => hc pins s1 σ H1 vs us Q I1 r1 q1) he hpl
/-- T(e, ..), T a built-in type -/
theorem pe_callTy (hc : CallR X (.type T) r) (hg : Gl X x) (hm : X.mg x = none) (hv : bootBuiltins x = some (.type T)) (ha : PA X (e :: es) t) (hn : x ≠ "__name__" := by decide) (hdb : (x == ("__debug__" : Str)) = false := by decide)
    (he : starEach (e :: es) X.env = (false, eval e X.env) :: starEach es X.env := by rfl) (hpl : (backTo pos (starEach es X.env)).any (·.1) = false := by rfl) : PE X (.Call (.Name x p) (e :: es) [] pos) (tCB r t) := by
  intro pins s σ H Q I h
  refine wpAny_Call_Name_kw (ld_blt I hg hm hv ?_ hn hdb)
  exact PyProof.Rows.callWith_type1 (thn (ha pos pins s σ H _ I h) fun us s1 ⟨vs, H1, I1, r1, q1⟩ => hc pins s1 σ H1 vs us Q I1 r1 q1) he hpl
/-- T() -/
theorem pe_callTy0 (hc : CallR X (.type T) r) (hg : Gl X x) (hm : X.mg x = none) (hv : bootBuiltins x = some (.type T)) (hn : x ≠ "__name__" := by decide) (hdb : (x == ("__debug__" : Str)) = false := by decide) :
    PE X (.Call (.Name x p) [] [] pos) (tCB r tNil) := by
  intro pins s σ H Q I h
  refine wpAny_Call_Name_kw (ld_blt I hg hm hv ?_ hn hdb)
  exact PyProof.Rows.callWith_type0 (hc pins s σ H [] [] Q I .nil h)
end
end L2

namespace HT
open PySem PyProof.Rows

/-- t < u of tuples of ints -/
def lexLt : List Int → List Int → Bool
  | [], [] => false
  | [], _ :: _ => true
  | _ :: _, [] => false
  | x :: xs, y :: ys => if x = y then lexLt xs ys else decide (x < y)
theorem lexLt_cons (x y : Int) (xs ys : List Int) : lexLt (x :: xs) (y :: ys) = if x = y then lexLt xs ys else decide (x < y) := rfl
theorem lexLt_nil_nil : lexLt [] [] = false := rfl
theorem lexLt_nil_cons (y : Int) (ys : List Int) : lexLt [] (y :: ys) = true := rfl
theorem lexLt_cons_nil (x : Int) (xs : List Int) : lexLt (x :: xs) [] = false := rfl

theorem eqAt_int (A : Around) (s : Shared) (a : Int) (t : Tok) (c : Int) (u : Tok) : ∃ e, SeqAt.EqAt A s (.int a t) (.int c u) e ∧ (e = true ↔ a = c) :=
  ⟨(a == c), SeqAt.EqAt.int_int a t c u, by simp⟩
theorem rcLt_int (A : Around) (s : Shared) (a : Int) (t : Tok) (c : Int) (u : Tok) (prog : Program) (w : World) (E : Value → Shared → Prop) (Q : Value → Shared → Prop) (h : Q (.bool (decide (a < c))) s) :
    wpAny (model prog w) A (richCompare .Lt (.int a t) (.int c u)) Q E s :=
  (PyProof.Rows.lt_int h : wpAny (model prog w) A (compareOp .Lt (.int a t) (.int c u)) Q E s)

section
open PySem.SeqAt
open PySem.AutoSeq1 (wpAny_loadPart')
open PySem.MeetsSeq PySem.MeetsSeq2 PySem.MeetsSeq3

theorem tuple_lt_ints (l b : Addr) (items items2 : Array Value) (n n2 : Nat) (dd dd2 : Option Addr) (sl sl2 : Array (Option Value)) (ns ms : List Int) (hi : IntsAre items.toList ns) (hj : IntsAre items2.toList ms) :
    Meets (Builtin.«tuple.__lt__» ⟨[.ref l, .ref b], []⟩)
      (fun _ R s => s.heap.get? l = some { cls := .type "tuple", dict := dd, data := .seq items n, slots := sl } ∧ s.heap.get? b = some { cls := .type "tuple", dict := dd2, data := .seq items2 n2, slots := sl2 } ∧
        R (.ok (.ret (.bool (lexLt ns ms)))) s) :=
  .of_wp fun prog w A R s h => by
    obtain ⟨hp, g, d, tk, os⟩ := s; obtain ⟨hl, hb, h⟩ := h
    have f2 := AutoSeq1.sub_tuple_tuple
    have z1 : items.size = ns.length := by rw [← hi.length]; simp
    have z2 : items2.size = ms.length := by rw [← hj.length]; simp
    wp_walk using wpAny_loadPart' hl, wpAny_loadPart' hb, wpAny_forIn_list _ (fun rest b s' => b.1 = none ∧ s' = ⟨hp, g, d, tk, os⟩ ∧ ∃ (vs ws : List Value) (ns' ms' : List Int), rest = vs.zip ws ∧
      IntsAre vs ns' ∧ IntsAre ws ms' ∧ ns'.length + items2.size = ms'.length + items.size ∧ R (.ok (.ret (.bool (lexLt ns' ms')))) ⟨hp, g, d, tk, os⟩) _
    case turn =>
      rintro ⟨y, x⟩ rest b s' ⟨hb', rfl, vs, ws, ns', ms', hz, hvi, hwi, hlen, hR⟩
      cases hvi with
      | nil => rw [List.zip_nil_left] at hz; cases hz
      | cons a t hvi' =>
        cases hwi with
        | nil => rw [List.zip_nil_right] at hz; cases hz
        | cons c u hwi' =>
          rw [List.zip_cons_cons] at hz
          injection hz with hyx hrest
          injection hyx with hy hx
          subst hy hx
          rw [lexLt_cons] at hR
          simp only [List.length_cons] at hlen
          obtain ⟨e, he, hiff⟩ := eqAt_int A.in1 ⟨hp, g, d, tk, os⟩ a t c u
          refine wpAny_bind (he prog w _ _ ?_)
          cases e with
          | true =>
            rw [if_pos (hiff.mp rfl)] at hR
            wp_walk
            exact ⟨rfl, rfl, _, _, _, _, hrest, hvi', hwi', by omega, hR⟩
          | false =>
            rw [if_neg (fun q => absurd (hiff.mpr q) Bool.false_ne_true)] at hR
            have hri := rcLt_int A.in1 ⟨hp, g, d, tk, os⟩ a t c u prog w
            wp_walk using hri
            exact ⟨_, rfl, by simpa using hR⟩
    case fin =>
      rintro ⟨b1, b2⟩ s' ⟨hb', rfl, vs, ws, ns', ms', hz, hvi, hwi, hlen, hR⟩
      simp only at hb'
      subst hb'
      have hv : lexLt ns' ms' = decide (items.size < items2.size) := by
        cases hvi with
        | nil =>
          cases hwi with
          | nil =>
            simp only [List.length_nil] at hlen
            rw [lexLt_nil_nil]
            exact (decide_eq_false (by omega)).symm
          | cons c u hw =>
            simp only [List.length_nil, List.length_cons] at hlen
            rw [lexLt_nil_cons]
            exact (decide_eq_true (by omega)).symm
        | cons a t hv =>
          cases hwi with
          | nil =>
            simp only [List.length_nil, List.length_cons] at hlen
            rw [lexLt_cons_nil]
            exact (decide_eq_false (by omega)).symm
          | cons c u hw =>
            rw [List.zip_cons_cons] at hz
            cases hz
      rw [hv] at hR
      wp_walk
      exact ⟨_, rfl, by simpa [Builtin.Tuple.tupleCompareSizes] using hR⟩
    case h =>
      exact ⟨rfl, rfl, items.toList, items2.toList, ns, ms, rfl, hi, hj, by omega, h⟩
end

section
variable {prog : Program} {w : World} {A : Around} {E : Value → Shared → Prop} {s : Shared}

theorem lt_tupInts {l b : Addr} {items items2 : Array Value} {ns ms : List Int} {Q : Value → Shared → Prop} (hl : IsTup s.heap l items) (hb : IsTup s.heap b items2) (hi : IntsAre items.toList ns) (hj : IntsAre items2.toList ms)
    (hu : A.units < cLine) (h : Q (.bool (lexLt ns ms)) s) : wpAny (model prog w) A (compareOp .Lt (.ref l) (.ref b)) Q E s := by
  obtain ⟨⟨cls, dd, data, sl⟩, ho, hc, n, hd⟩ := id hl
  obtain ⟨⟨cls2, dd2, data2, sl2⟩, ho2, hc2, n2, hd2⟩ := id hb
  simp only at hc hd hc2 hd2
  subst hc hd hc2 hd2
  exact richCompare_meets_room (op := .Lt) ⟨_, ho, rfl⟩ ⟨_, ho2, rfl⟩ PySem.F.slot_tuple_lt PySem.F.entry_tuple_lt (PySem.F.args_tuple_lt_2 _ _) (tuple_lt_ints l b items items2 n n2 dd dd2 sl sl2 ns ms hi hj)
    ⟨ho, ho2, show Value.bool (lexLt ns ms) ≠ Value.notImplemented ∧ Q (.bool (lexLt ns ms)) s from ⟨(fun x => nomatch x), h⟩⟩ hu

/-- t + u, t not empty -/
theorem cat_tup {t b : Addr} {vs ws : List Value} {Q : Value → Shared → Prop} (ht : IsTup s.heap t vs.toArray) (hb : IsTup s.heap b ws.toArray) (hv : vs ≠ [])
    (h1 : ws = [] → Q (.ref t) s) (h2 : ws ≠ [] → Q (.ref s.heap.objs.size) { s with heap := s.heap.push { cls := .type "tuple", data := .seq (vs ++ ws).toArray } })
    (hsz : vs.length + ws.length ≤ sizeLine) : wpAny (model prog w) A (binaryOp .Add (.ref t) (.ref b)) Q E s := by
  obtain ⟨⟨cls, dd, data, sl⟩, ho, hc, n, hd⟩ := id ht
  obtain ⟨⟨cls2, dd2, data2, sl2⟩, ho2, hc2, n2, hd2⟩ := id hb
  simp only at hc hd hc2 hd2
  subst hc hd hc2 hd2
  have e : vs.toArray ++ ws.toArray = (vs ++ ws).toArray := by simp
  by_cases hw : ws = []
  · exact concat_meets ⟨_, ho, rfl⟩ ⟨_, ho2, rfl⟩ noFill_tuple_add seq_tuple_add PySem.F.slot_tuple_add PySem.F.entry_tuple_add (PySem.F.args_tuple_add_2 _ _)
      (tuple_addW1 t b vs.toArray ws.toArray n n2 dd dd2 sl sl2 (by simpa using hv) (by simp [hw])) ⟨ho, ho2, h1 hw⟩
  · refine concat_meets ⟨_, ho, rfl⟩ ⟨_, ho2, rfl⟩ noFill_tuple_add seq_tuple_add PySem.F.slot_tuple_add PySem.F.entry_tuple_add (PySem.F.args_tuple_add_2 _ _)
      (tuple_addW2 t b vs.toArray ws.toArray n n2 dd dd2 sl sl2 (by simpa using hv) (by simpa using hw) (by rw [List.size_toArray, List.size_toArray]; exact hsz)) ⟨ho, ho2, ?_⟩
    rw [e]
    exact h2 hw

/-! ### t[a:b], not the whole -/
/-- a slice's bound as a place among n (d where it is left out) -/
def sIx (n d : Nat) : Option Int → Nat
  | none => d
  | some v => if v < 0 then (v + (n : Int)).toNat else min v.toNat n
theorem sIx_none (n d : Nat) : sIx n d none = d := rfl
theorem sIx_nat (n d k : Nat) : sIx n d (some (k : Int)) = min k n := by
  show (if (k : Int) < 0 then ((k : Int) + (n : Int)).toNat else min (k : Int).toNat n) = min k n
  rw [if_neg (by omega), Int.toNat_natCast]
theorem sIx_le (n d : Nat) (hd : d ≤ n) (o : Option Int) : sIx n d o ≤ n := by
  cases o with
  | none => exact hd
  | some v =>
    show (if v < 0 then (v + (n : Int)).toNat else min v.toNat n) ≤ n
    by_cases hv : v < 0
    · rw [if_pos hv]; omega
    · rw [if_neg hv]; exact Nat.min_le_right _ _
theorem clip_eq (v : Int) (n d : Nat) : (if v < 0 then max (v + (n : Int)) 0 else min v (n : Int)) = ((sIx n d (some v) : Nat) : Int) := by
  show (if v < 0 then max (v + (n : Int)) 0 else min v (n : Int)) = (((if v < 0 then (v + (n : Int)).toNat else min v.toNat n) : Nat) : Int)
  by_cases hv : v < 0
  · simp only [if_pos hv]; omega
  · simp only [if_neg hv]; omega
theorem adjust_gen (lo hi : Option Int) (n : Nat) : Builtin.Slice.sliceAdjust lo hi 1 (n : Int) = (((sIx n 0 lo : Nat) : Int), ((sIx n n hi : Nat) : Int)) := by
  have h1 : ¬ ((1 : Int) < 0) := by omega
  unfold Builtin.Slice.sliceAdjust
  simp only [h1, if_false]
  refine Prod.ext ?_ ?_
  · cases lo with
    | none => rfl
    | some v => exact clip_eq v n 0
  · cases hi with
    | none => rfl
    | some v => exact clip_eq v n n
theorem places_gen (i j : Nat) : Builtin.Slice.slicePlaces (i : Int) (j : Int) 1 = j - i := by
  unfold Builtin.Slice.slicePlaces
  have h1 : (1 : Int) > 0 := by omega
  simp only [h1, if_true, Int.ediv_one]
  split <;> omega
theorem slicePart_ {v : Value} {o : Option Int} {Q : Option Int → Shared → Prop} (p : IsPart v o) (h : Q o s) : wpAny (model prog w) A (Builtin.Slice.slicePartIndex v) Q E s := by
  cases p with
  | none => exact slicePart_none h
  | int i t => exact slicePart_int h
theorem sliceApplied_gen {sl : Addr} {vl vu : Value} {lo hi : Option Int} {n : Nat} {Q : Int × Int × Nat → Shared → Prop} (hs : s.heap.IsSliceOf sl vl vu .none) (pl : IsPart vl lo) (pu : IsPart vu hi)
    (h : Q (((sIx n 0 lo : Nat) : Int), 1, sIx n n hi - sIx n 0 lo) s) : wpAny (model prog w) A (Builtin.Slice.sliceApplied (.ref sl) (pure (n : Int))) Q E s := by
  obtain ⟨os, hos, hcs, hds⟩ := id hs
  unfold Builtin.Slice.sliceApplied Builtin.Slice.sliceFields
  refine wpAny_bind (wpAny_bind (wpAny_field hos hds (x := vl) rfl (wpAny_bind (wpAny_field hos hds (x := vu) rfl (wpAny_bind (wpAny_field hos hds (x := .none) rfl (wpAny_pure ?_)))))))
  refine wpAny_bind (slicePart_none ?_)
  show wpAny _ _ (if ((1 : Int) == 0) = true then _ else _) _ _ s
  rw [if_neg (by decide)]
  refine wpAny_bind (slicePart_ pl (wpAny_bind (slicePart_ pu (wpAny_bind (wpAny_pure ?_)))))
  show wpAny _ _ (match Builtin.Slice.sliceAdjust lo hi 1 (n : Int) with | (lo, hi) => pure (lo, (1 : Int), Builtin.Slice.slicePlaces lo hi 1)) _ _ s
  rw [adjust_gen lo hi n]
  show wpAny _ _ (pure (((sIx n 0 lo : Nat) : Int), (1 : Int), Builtin.Slice.slicePlaces ((sIx n 0 lo : Nat) : Int) ((sIx n n hi : Nat) : Int) 1)) _ _ s
  rw [places_gen]
  exact wpAny_pure h
theorem pick_gen (xs : Array Value) (i k : Nat) : ((List.range k).filterMap fun (m : Nat) => xs[((i : Int) + (m : Int) * 1).toNat]?).toArray = ((xs.toList.drop i).take k).toArray := by
  have e : (fun (m : Nat) => xs[((i : Int) + (m : Int) * 1).toNat]?) = fun m => xs[i + m]? := by
    funext m
    have : ((i : Int) + (m : Int) * 1).toNat = i + m := by omega
    rw [this]
  rw [e]
  have := pick_run xs i k
  rw [List.filterMap_map] at this
  have e2 : ((fun x => xs[x]?) ∘ fun x => i + x) = fun m => xs[i + m]? := rfl
  rw [e2] at this
  rw [this]

theorem getItem_tuple_cut {t sl : Addr} {items : Array Value} {vl vu : Value} {lo hi : Option Int} {Q : Value → Shared → Prop} (ht : IsTup s.heap t items) (hs : s.heap.IsSliceOf sl vl vu .none) (pl : IsPart vl lo) (pu : IsPart vu hi)
    (hw : ¬ (sIx items.size 0 lo = 0 ∧ sIx items.size items.size hi = items.size))
    (h : Q (.ref s.heap.objs.size) { s with heap := s.heap.push { cls := .type "tuple", data := .seq ((items.toList.drop (sIx items.size 0 lo)).take (sIx items.size items.size hi - sIx items.size 0 lo)).toArray } })
    (hsz : items.size ≤ sizeLine) : wpAny (model prog w) A (getItem (.ref t) (.ref sl)) Q E s := by
  have htake : sizeOk (.seq ((items.toList.drop (sIx items.size 0 lo)).take (sIx items.size items.size hi - sIx items.size 0 lo)).toArray) := by
    show ((items.toList.drop (sIx items.size 0 lo)).take (sIx items.size items.size hi - sIx items.size 0 lo)).toArray.size ≤ sizeLine
    rw [List.size_toArray, List.length_take, List.length_drop, Array.length_toList]
    omega
  have hj : sIx items.size items.size hi ≤ items.size := sIx_le _ _ (Nat.le_refl _) hi
  obtain ⟨os, hos, hcs, hds⟩ := id hs
  have hTs : s.TypeIs (.ref sl) "slice" := ⟨os, hos, hcs⟩
  unfold getItem
  try with_reducible refine wpAny_holding ?_
  first | refine wpAny_bind (wpAny_pure ?_) | skip
  refine wpAny_bind (wpAny_sequenceKey ht.typeIs (by decide) ?_)
  refine wpAny_bind (wpAny_callSpecial?_slot (name := Str.ofString "__getitem__") ht.typeIs PyProof.Rows.slot_tuple_getitem
    (wpAny_call_entry PyProof.Rows.slot_tuple_getitem ht.typeIs entry_tuple_getitem ?_ (args_tuple_getitem _ _)))
  show wpAny _ _ (Builtin.Tuple.tupleItemsOf (.ref t) >>= _) _ _ s
  refine wpAny_bind (tupleItemsOf_ ht ?_)
  refine wpAny_bind (wpAny_typeOf hTs ?_)
  rw [if_pos (by decide)]
  refine wpAny_bind (sliceApplied_gen hs pl pu ?_)
  have hno : ¬ ((((sIx items.size 0 lo : Nat) : Int) == 0 && (1 : Int) == 1 && (sIx items.size items.size hi - sIx items.size 0 lo) == items.size) = true) := by
    intro q
    rw [Bool.and_eq_true, Bool.and_eq_true] at q
    have q1 : ((sIx items.size 0 lo : Nat) : Int) = 0 := eq_of_beq q.1.1
    have q2 : sIx items.size items.size hi - sIx items.size 0 lo = items.size := eq_of_beq q.2
    exact hw ⟨by omega, by omega⟩
  show wpAny _ _ (if (((sIx items.size 0 lo : Nat) : Int) == 0 && (1 : Int) == 1 && (sIx items.size items.size hi - sIx items.size 0 lo) == items.size) = true then _ else _) _ _ s
  rw [if_neg hno, pick_gen]
  first
    | exact wpAny_bind (m := Builtin.Tuple.tupleExact _) (wpAny_newObj_type (wpAny_pure ⟨_, rfl, wpAny_pure h⟩) htake)
    | exact wpAny_bind (m := Builtin.Tuple.tupleExact _) (wpAny_newObj_type (wpAny_bind (wpAny_pure (wpAny_pure ⟨_, rfl, wpAny_pure h⟩))) htake)
    | exact wpAny_bind (wpAny_bind (m := Builtin.Tuple.tupleExact _) (wpAny_newObj_type (wpAny_pure (wpAny_pure ⟨_, rfl, wpAny_pure h⟩)) htake))
    | exact wpAny_bind (wpAny_bind (m := Builtin.Tuple.tupleExact _) (wpAny_newObj_type (wpAny_pure ⟨_, rfl, wpAny_pure h⟩) htake))
end
end HT

namespace L2
open PySem PySem.Spec PyProof.Rows

/-! ### the parts of a slice -/
abbrev TO := St → Hp → (Option Int → Hp → Prop) → Prop
/-- a slice's part (left out, or an int) -/
def PO (X : Cx) (e : Option Expr) (t : TO) : Prop :=
  ∀ (pins : List (Addr × Obj)) (s : Shared) (σ : St) (H : Hp) (Q : Option Int → Hp → Prop), Inv X pins σ H s → t σ H Q →
    wpAny (model X.prog X.w) X.A (evalPart e X.env) (fun u s' => ∃ o H', Inv X pins σ H' s' ∧ IsPart u o ∧ Q o H') X.xe s
def tNoPart : TO := fun _ H Q => Q none H
def tPart (t : TE) : TO := fun σ H Q => t σ H fun x H1 => ∃ i, x = .int i ∧ Q (some i) H1

theorem intsAre_of {ns : List Int} : ∀ {us : List Value}, Vals (ns.map V.int) us → IntsAre us ns := by
  induction ns with
  | nil => intro us r; rw [List.map_nil] at r; cases r; exact .nil
  | cons n ns ih =>
    intro us r
    rw [List.map_cons] at r
    cases r with
    | cons r1 r2 =>
      obtain ⟨t, e⟩ := r1
      subst e
      exact .cons n t (ih r2)

section
variable {X : Cx} {e : Expr} {te : TE} {lo hi : Option Expr} {tl th : TO} {pos p2 : Pos}

theorem po_none : PO X none tNoPart := by
  intro pins s σ H Q I h
  rw [evalPart_none]
  exact wpAny_pure ⟨none, H, I, .none, h⟩
theorem po_some (h : PE X e te) : PO X (some e) (tPart te) := by
  intro pins s σ H Q I hw
  rw [evalPart_some]
  refine thn (h pins s σ H _ I hw) fun u s1 ⟨x, H1, I1, r1, q1⟩ => ?_
  obtain ⟨i, rfl, q⟩ := q1
  obtain ⟨t, rfl⟩ := r1
  exact ⟨some i, H1, I1, .int i t, q⟩

/-- what a slice of a value is, by values: the slice object stands at sl -/
def SlR (X : Cx) (r : V → Option Int → Option Int → Hp → VK → Prop) : Prop :=
  ∀ (pins : List (Addr × Obj)) (s : Shared) (σ : St) (H : Hp) (x : V) (v vl vu : Value) (lo hi : Option Int) (sl : Addr) (Q : VK), Inv X pins σ H s → RelV x v → s.heap.IsSliceOf sl vl vu .none → IsPart vl lo → IsPart vu hi → r x lo hi H Q →
    ∃ T id, typeLookup (.type T) "__getitem__" = pure (some (.builtin id)) ∧ s.TypeIs v T ∧ wpAny (model X.prog X.w) X.A (getItem v (.ref sl)) (EP X pins σ Q) X.xe s
theorem SlR.or {r r' : V → Option Int → Option Int → Hp → VK → Prop} (h : SlR X r) (h' : SlR X r') : SlR X (fun x lo hi H Q => r x lo hi H Q ∨ r' x lo hi H Q) := by
  intro pins s σ H x v vl vu lo hi sl Q I rx hs pl pu q
  rcases q with q | q
  · exact h pins s σ H x v vl vu lo hi sl Q I rx hs pl pu q
  · exact h' pins s σ H x v vl vu lo hi sl Q I rx hs pl pu q
def tSl (r : V → Option Int → Option Int → Hp → VK → Prop) (te : TE) (tl th : TO) : TE := fun σ H Q => te σ H fun x H1 => tl σ H1 fun l H2 => th σ H2 fun u H3 => r x l u H3 Q
/-- a[lo:hi], any a -/
theorem pe_slice {r : V → Option Int → Option Int → Hp → VK → Prop} (hr : SlR X r) (he : PE X e te) (hl : PO X lo tl) (hu : PO X hi th) : PE X (.Subscript e (.Slice lo hi none p2) pos) (tSl r te tl th) := by
  intro pins s σ H Q I h
  refine Subscript_ (thn (he pins s σ H _ I h) fun v s1 ⟨x, H1, I1, r1, q1⟩ => ?_)
  refine wpAny_Slice (thn (hl pins s1 σ H1 _ I1 q1) fun vl s2 ⟨l, H2, I2, pl, q2⟩ => thn (hu pins s2 σ H2 _ I2 q2) fun vu s3 ⟨u, H3, I3, pu, q3⟩ => ?_)
  rw [evalPart_none]
  refine wpAny_pure ?_
  have I4 : Inv X pins σ H3 { s3 with heap := s3.heap.push { cls := .type "slice", data := .fields #[vl, vu, .none] } } := I3.kept (t' := s3.toks) fun b ob q => Heap.get?_push_of_some _ q
  obtain ⟨T, id, hT, ht, hg⟩ := hr pins { s3 with heap := s3.heap.push { cls := .type "slice", data := .fields #[vl, vu, .none] } } σ H3 x v vl vu l u s3.heap.objs.size Q I4 r1 (Heap.IsSliceOf.new ..) pl pu q3
  show wpAny (model X.prog X.w) X.A (subscriptTail e (.Slice lo hi none p2) v (.ref s3.heap.objs.size)) (EP X pins σ Q) X.xe { s3 with heap := s3.heap.push { cls := .type "slice", data := .fields #[vl, vu, .none] } }
  exact tail_any (ops := [.ref s3.heap.objs.size, v]) ht hT hg (by with_unfolding_all rfl)

/-- the items of xs[lo:hi] -/
def cutV (xs : List V) (lo hi : Option Int) : List V := (xs.drop (HT.sIx xs.length 0 lo)).take (HT.sIx xs.length xs.length hi - HT.sIx xs.length 0 lo)
theorem cutV_length (xs : List V) (lo hi : Option Int) : (cutV xs lo hi).length ≤ xs.length := by
  unfold cutV
  rw [List.length_take, List.length_drop]
  omega
/-- t[lo:hi], not the whole of it (the whole would be t itself) -/
def rSlT (K : PySem.W.Frag) : V → Option Int → Option Int → Hp → VK → Prop := fun x lo hi H Q => ∃ a xs, x = .ref a ∧ SqT K H a xs ∧
  ¬ (HT.sIx xs.length 0 lo = 0 ∧ HT.sIx xs.length xs.length hi = xs.length) ∧ ∀ p, H p = none → Q (.ref p) (upd H p (.tup (cutV xs lo hi)))
theorem sl_tup : SlR X (rSlT X.K) := by
  intro pins s σ H x v vl vu lo hi sl Q I rx hs pl pu h
  obtain ⟨a, xs, rfl, hx, hw, q⟩ := h
  cases rx
  obtain ⟨its, r, ht, hz⟩ := I.tuple hx
  have hlen : its.toArray.size = xs.length := by rw [List.size_toArray]; exact r.length.symm
  refine ⟨"tuple", _, PyProof.Rows.slot_tuple_getitem.lookup, ht.typeIs, ?_⟩
  refine HT.getItem_tuple_cut ht hs pl pu (by rw [hlen]; exact hw) ?_ (by rw [hlen]; exact hz)
  rw [hlen]
  refine ⟨.ref s.heap.objs.size, _, I.laid (t' := s.toks) (o := .tup (cutV xs lo hi)) (fun b ob q => Heap.get?_push_of_some _ q) (Nat.le_refl _) ?_, rfl, q _ (I.hok.fresh (Nat.le_refl _))⟩
  exact ⟨Nat.le_trans (cutV_length xs lo hi) hz, _, (r.drop (HT.sIx xs.length 0 lo)).take (HT.sIx xs.length xs.length hi - HT.sIx xs.length 0 lo), IsTup.new _ _⟩

/-! ### t < u, t + u -/
def rLtT (K : PySem.W.Frag) : R2 := fun x y H Q => ∃ a b ns ms, x = .ref a ∧ y = .ref b ∧ SqT K H a (ns.map V.int) ∧ SqT K H b (ms.map V.int) ∧ Q (.bl (HT.lexLt ns ms)) H
theorem op_ltT (hu : X.A.units < cLine) : OpR X (compareOp .Lt) (rLtT X.K) := by
  intro pins s σ H x y v u Q I rx ry h
  obtain ⟨a, b, ns, ms, rfl, rfl, ha, hb, q⟩ := h
  cases rx
  cases ry
  obtain ⟨its, r1, p1, _⟩ := I.tuple ha
  obtain ⟨its2, r2, p2, _⟩ := I.tuple hb
  have i1 : IntsAre its.toArray.toList ns := intsAre_of r1
  have i2 : IntsAre its2.toArray.toList ms := intsAre_of r2
  exact HT.lt_tupInts p1 p2 i1 i2 hu ⟨.bl (HT.lexLt ns ms), H, I, rfl, q⟩
/-- t + u, t not empty: u empty gives t itself -/
def rCatT (K : PySem.W.Frag) : R2 := fun x y H Q => ∃ a b xs ys, x = .ref a ∧ y = .ref b ∧ SqT K H a xs ∧ SqT K H b ys ∧ xs ≠ [] ∧ xs.length + ys.length ≤ sizeLine ∧
  (ys = [] → Q (.ref a) H) ∧ (ys ≠ [] → ∀ p, H p = none → Q (.ref p) (upd H p (.tup (xs ++ ys))))
theorem Vals.nil_iff {xs : List V} {us : List Value} (r : Vals xs us) : us = [] ↔ xs = [] := by
  cases r with
  | nil => simp
  | cons _ _ => simp
theorem op_catT : OpR X (binaryOp .Add) (rCatT X.K) := by
  intro pins s σ H x y v u Q I rx ry h
  obtain ⟨a, b, xs, ys, rfl, rfl, ha, hb, hx, hz, q1, q2⟩ := h
  cases rx
  cases ry
  obtain ⟨its, r1, p1, _⟩ := I.tuple ha
  obtain ⟨its2, r2, p2, _⟩ := I.tuple hb
  refine HT.cat_tup p1 p2 (fun z => hx (r1.nil_iff.mp z)) (fun z => ⟨.ref a, H, I, rfl, q1 (r2.nil_iff.mp z)⟩) (fun z => ?_) (by rw [← r1.length, ← r2.length]; exact hz)
  refine ⟨.ref s.heap.objs.size, _, I.laid (t' := s.toks) (o := .tup (xs ++ ys)) (fun b ob q => Heap.get?_push_of_some _ q) (Nat.le_refl _) ?_, rfl, q2 (fun w => z (r2.nil_iff.mpr w)) _ (I.hok.fresh (Nat.le_refl _))⟩
  exact ⟨by rw [List.length_append]; exact hz, _, r1.append r2, IsTup.new _ _⟩
/-- tuple(t) -/
theorem call_tupleT : CallR X (.type "tuple") (fun xs H Q => ∃ a ys, xs = [.ref a] ∧ SqT X.K H a ys ∧ Q (.ref a) H) := by
  intro pins s σ H xs us Q I r h
  obtain ⟨a, ys, rfl, ha, q⟩ := h
  obtain ⟨u, rfl, ru⟩ := vals1 r
  cases ru
  obtain ⟨its, _, p1, _⟩ := I.tuple ha
  exact call_tuple_same (items := its.toArray) p1 ⟨.ref a, H, I, rfl, q⟩
end
end L2

namespace L2
open PySem PySem.Spec PyProof.Rows

/-! ### places -/
/-- the place that an index of any sign means -/
def ixN (n : Nat) (i : Int) : Option Nat := if 0 ≤ i then (if i < n then some i.toNat else none) else if -(n : Int) ≤ i then some (i + n).toNat else none
def atI {α : Type} (xs : List α) (i : Int) : Option α := (ixN xs.length i).bind fun j => xs[j]?
theorem ixN_seq {n : Nat} {i : Int} {j : Nat} (h : ixN n i = some j) : seqIndex? i n = some j ∧ j < n ∧ -(n : Int) ≤ i ∧ i < n := by
  unfold ixN at h
  by_cases h0 : 0 ≤ i
  · rw [if_pos h0] at h
    by_cases h1 : i < n
    · rw [if_pos h1] at h
      have e : i.toNat = j := Option.some.inj h
      exact ⟨by rw [seqIndex_of h0 h1, e], by omega, by omega, h1⟩
    · rw [if_neg h1] at h; cases h
  · rw [if_neg h0] at h
    by_cases h1 : -(n : Int) ≤ i
    · rw [if_pos h1] at h
      have e : (i + n).toNat = j := Option.some.inj h
      exact ⟨by rw [seqIndex_neg (by omega) h1, e], by omega, h1, by omega⟩
    · rw [if_neg h1] at h; cases h
theorem atI_get {α : Type} {xs : List α} {i : Int} {v : α} (h : atI xs i = some v) : ∃ j, seqIndex? i xs.length = some j ∧ xs[j]? = some v ∧ j < xs.length ∧ -(xs.length : Int) ≤ i ∧ i < xs.length := by
  unfold atI at h
  cases e : ixN xs.length i with
  | none => rw [e] at h; cases h
  | some j =>
    rw [e] at h
    obtain ⟨h1, h2, h3, h4⟩ := ixN_seq e
    exact ⟨j, h1, h, h2, h3, h4⟩
theorem atI_nat {α : Type} {xs : List α} {j : Nat} {v : α} (h : xs[j]? = some v) : atI xs (j : Int) = some v := by
  have hj : j < xs.length := (List.getElem?_eq_some_iff.mp h).1
  have e : ixN xs.length (j : Int) = some j := by
    unfold ixN
    rw [if_pos (by omega), if_pos (by omega)]; simp
  unfold atI; rw [e]; exact h
theorem atI_last {α : Type} (xs : List α) (v : α) : atI (xs ++ [v]) (-1) = some v := by
  have hl : (xs ++ [v]).length = xs.length + 1 := by simp
  have e : ixN (xs ++ [v]).length (-1) = some xs.length := by
    unfold ixN
    rw [hl, if_neg (by decide), if_pos (by omega)]
    congr 1
    omega
  unfold atI
  rw [e]
  show (xs ++ [v])[xs.length]? = some v
  simp

/-! ### what may be subscripted -/
/-- what stands as an index of a plain subscript -/
def PlainIx (b : Expr) : Prop := ∀ o i, subscripted b false o i = operate [o, i] (getItem o i)
/-- a subscript by values -/
def IxR (X : Cx) (r : R2) : Prop :=
  ∀ (value slice : Expr) (pins : List (Addr × Obj)) (s : Shared) (σ : St) (H : Hp) (x y : V) (v u : Value) (Q : VK), Inv X pins σ H s → RelV x v → RelV y u → r x y H Q →
    subscripted slice false v u = operate [v, u] (getItem v u) → wpAny (model X.prog X.w) X.A (subscriptTail value slice v u) (EP X pins σ Q) X.xe s
/-- a call of a builtin's method by values: the receiver, the arguments -/
def MtR (X : Cx) (id : String) (r : V → List V → Hp → VK → Prop) : Prop :=
  ∀ (pins : List (Addr × Obj)) (s : Shared) (σ : St) (H : Hp) (x : V) (xs : List V) (v : Value) (us : List Value) (Q : VK), Inv X pins σ H s → RelV x v → Vals xs us → r x xs H Q →
    wpAny (model X.prog X.w) X.A (call (.builtin id) (v :: us)) (EP X pins σ Q) X.xe s
section
variable {X : Cx} {a b : Expr} {ta tb : TE} {pos : Pos}
theorem IxR.or {r r' : R2} (h : IxR X r) (h' : IxR X r') : IxR X (fun x y H Q => r x y H Q ∨ r' x y H Q) := by
  intro value slice pins s σ H x y v u Q I rx ry q hs
  rcases q with q | q
  · exact h value slice pins s σ H x y v u Q I rx ry q hs
  · exact h' value slice pins s σ H x y v u Q I rx ry q hs
theorem MtR.or {id : String} {r r' : V → List V → Hp → VK → Prop} (h : MtR X id r) (h' : MtR X id r') : MtR X id (fun x xs H Q => r x xs H Q ∨ r' x xs H Q) := by
  intro pins s σ H x xs v us Q I rx rs q
  rcases q with q | q
  · exact h pins s σ H x xs v us Q I rx rs q
  · exact h' pins s σ H x xs v us Q I rx rs q
/-- a[b] -/
theorem pe_ix {r : R2} (hr : IxR X r) (ha : PE X a ta) (hb : PE X b tb) (hs : PlainIx b) : PE X (.Subscript a b pos) (tOp r ta tb) := by
  intro pins s σ H Q I h
  exact Subscript_ (binT ha hb I h fun v u s2 x y H2 I2 rx ry q => hr a b pins s2 σ H2 x y v u Q I2 rx ry q (hs _ _))

def rIxL (K : PySem.W.Frag) : R2 := fun x y H Q => ∃ p xs i v, x = .ref p ∧ y = .int i ∧ SqL K H p xs ∧ atI xs i = some v ∧ Q v H
def rIxT (K : PySem.W.Frag) : R2 := fun x y H Q => ∃ p xs i v, x = .ref p ∧ y = .int i ∧ SqT K H p xs ∧ atI xs i = some v ∧ Q v H
def rIxS : R2 := fun x y H Q => ∃ z i c, x = .str z ∧ y = .int i ∧ z.length ≤ sizeLine ∧ atI z.cps.toList i = some c ∧ Q (.str ⟨#[c]⟩) H
theorem ix_list : IxR X (rIxL X.K) := by
  intro value slice pins s σ H x y v u Q I rx ry h hs
  obtain ⟨p, xs, i, z, rfl, rfl, hq, he, q⟩ := h
  cases rx
  obtain ⟨t, rfl⟩ := ry
  obtain ⟨its, r, pl, hz⟩ := I.list hq
  obtain ⟨j, h1, h2, h3, h4, h5⟩ := atI_get he
  obtain ⟨w, ew, rw'⟩ := r.get h2
  have hl := r.length
  have hn := line63
  have fin : EP X pins σ Q w s := ⟨z, H, I, rw', q⟩
  by_cases h0 : 0 ≤ i
  · have hj : i.toNat = j := by
      rw [seqIndex_of h0 h5] at h1
      exact Option.some.inj h1
    exact item_listR pl.isList h0 (by omega) (by rw [hj]; simpa using ew) fin hs
  · have hj : (i + (its.toArray.size : Int)).toNat = j := by
      rw [seqIndex_neg (by omega) h4] at h1
      rw [List.size_toArray, ← hl]
      exact Option.some.inj h1
    exact subscriptTail_builtinR (x := w) pl.isList.typeIs slot_list_getitem.lookup
      (wpAny_getItem_list_neg (Q := fun r s' => r = w ∧ EP X pins σ Q r s') pl.isList (by omega) (by rw [List.size_toArray] <;> omega) (by omega) (by rw [hj]; simpa using ew) ⟨rfl, fin⟩) hs
theorem ix_tup : IxR X (rIxT X.K) := by
  intro value slice pins s σ H x y v u Q I rx ry h hs
  obtain ⟨p, xs, i, z, rfl, rfl, hq, he, q⟩ := h
  cases rx
  obtain ⟨t, rfl⟩ := ry
  obtain ⟨its, r, pl, hz⟩ := I.tuple hq
  obtain ⟨j, h1, h2, h3, h4, h5⟩ := atI_get he
  obtain ⟨w, ew, rw'⟩ := r.get h2
  have hl := r.length
  have hn := line63
  have fin : EP X pins σ Q w s := ⟨z, H, I, rw', q⟩
  exact subscriptTail_builtinR (x := w) pl.typeIs slot_tuple_getitem.lookup
    (getItem_tuple (j := j) (Q := fun r s' => r = w ∧ EP X pins σ Q r s') pl (by omega) (by omega) (by rw [List.size_toArray, ← hl]; exact h1) (by simpa using ew) ⟨rfl, fin⟩) hs
theorem ix_str : IxR X rIxS := by
  intro value slice pins s σ H x y v u Q I rx ry h hs
  obtain ⟨z, i, c, rfl, rfl, hz, he, q⟩ := h
  obtain ⟨t, rfl⟩ := rx
  obtain ⟨t', rfl⟩ := ry
  obtain ⟨j, h1, h2, h3, h4, h5⟩ := atI_get he
  have hl : z.cps.toList.length = z.length := by simp [Str.length]
  rw [hl] at h1 h4 h5
  have hn := line63
  exact tail_any (typeIs_str s z t) slot_str_getitem.lookup (getItem_str (c := c) (by
    have e1 : decide (i < -(2 ^ 63 : Int)) = false := decide_eq_false (by omega)
    have e2 : decide (i ≥ 2 ^ 63) = false := decide_eq_false (by omega)
    rw [e1, e2, Bool.or_false]) (by rw [h1]; simpa using h2) ⟨.str ⟨#[c]⟩, H, I.tok _, ⟨_, rfl⟩, q⟩) hs
/-- list, tuple or str -/
def rIx (K : PySem.W.Frag) : R2 := fun x y H Q => rIxL K x y H Q ∨ rIxT K x y H Q ∨ rIxS x y H Q
theorem ix_seq : IxR X (rIx X.K) := ix_list.or (ix_tup.or ix_str)

/-! ### xs[i] = v, any sign -/
/-- the list's object behind a store -/
theorem mapSeq_set (its : List Value) (n j : Nat) (u : Value) : Obj.mapSeq (·.setIfInBounds j u) { cls := .type "list", data := .seq its.toArray n } = { cls := .type "list", data := .seq (its.set j u).toArray n } := by
  simp [Obj.mapSeq]
theorem Inv.lst {pins : List (Addr × Obj)} {σ : St} {H : Hp} {s : Shared} {p : Addr} {xs : List V} (I : Inv X pins σ H s) (h : H p = some (.lst xs)) :
    ∃ (its : List Value) (n : Nat), Vals xs its ∧ s.heap.get? p = some { cls := .type "list", data := .seq its.toArray n } ∧ xs.length ≤ sizeLine := by
  obtain ⟨z, its, n, r, e⟩ := I.hok p _ h
  exact ⟨its, n, r, e, z⟩
/-- the list at p is written by an update of its object -/
theorem Inv.lstUpd {pins : List (Addr × Obj)} {σ : St} {H : Hp} {s : Shared} {p : Addr} {xs ys : List V} {its its' : List Value} {n n' : Nat} {f : Obj → Obj} (I : Inv X pins σ H s) (h : H p = some (.lst xs))
    (ho : s.heap.get? p = some { cls := .type "list", data := .seq its.toArray n }) (hf : f { cls := .type "list", data := .seq its.toArray n } = { cls := .type "list", data := .seq its'.toArray n' }) (r : Vals ys its') (hz : ys.length ≤ sizeLine) (t : Nat) :
    Inv X pins σ (upd H p (.lst ys)) { s with heap := s.heap.update p f, toks := t } := by
  have e : (s.heap.update p f).get? p = some { cls := .type "list", data := .seq its'.toArray n' } := by
    rw [Heap.get?_update_self f ho (by rw [hf] <;> rfl), hf]
  refine I.write (x := p) (e := p) (by rw [h]; trivial) (.inl rfl) (fun b u hb q => (Heap.get?_update_other _ _ (Ne.symm hb)).trans q) ⟨_, e⟩ ?_
  exact ⟨hz, its', n', r, e⟩
def rSetL : V → V → V → Hp → (Hp → Prop) → Prop := fun o i v H Q => ∃ p xs k j, o = .ref p ∧ i = .int k ∧ H p = some (.lst xs) ∧ ixN xs.length k = some j ∧ Q (upd H p (.lst (xs.set j v)))
theorem set_list : PSet X rSetL := by
  intro pins s σ H o i v ov iv u Q I ro ri rv h
  obtain ⟨p, xs, k, j, rfl, rfl, hp, hj, q⟩ := h
  cases ro
  obtain ⟨t, rfl⟩ := ri
  obtain ⟨its, n, r, ho, hz⟩ := I.lst hp
  obtain ⟨h1, h2, h3, h4⟩ := ixN_seq hj
  have hl := r.length
  have hn := line63
  have I' : Inv X pins σ (upd H p (.lst (xs.set j v))) { s with heap := s.heap.update p (Obj.mapSeq (·.setIfInBounds j u)) } :=
    I.lstUpd hp ho (mapSeq_set its n j u) (r.set rv j) (by rw [List.length_set]; exact hz) s.toks
  by_cases h0 : 0 ≤ k
  · have hk : k.toNat = j := by
      rw [seqIndex_of h0 h4] at h1
      exact Option.some.inj h1
    exact PySem.W.ki_setAt ho h0 (by omega) (by rw [List.size_toArray, ← hl]; exact h4) (by rw [hk]; exact ⟨_, I', q⟩)
  · have hk : (k + (its.toArray.size : Int)).toNat = j := by
      rw [seqIndex_neg (by omega) h3] at h1
      rw [List.size_toArray, ← hl]
      exact Option.some.inj h1
    exact PySem.W.ki_setBack ho (by omega) (by rw [List.size_toArray, ← hl]; exact h3) (by omega) (by rw [hk]; exact ⟨_, I', q⟩)

/-! ### slices -/
theorem slice_bounds (lo hi : Option Int) (n : Nat) : (sliceBounds lo hi none n).1 = ((HT.sIx n 0 lo : Nat) : Int) ∧ (sliceBounds lo hi none n).2.1 = ((HT.sIx n n hi : Nat) : Int) ∧ (sliceBounds lo hi none n).2.2 = 1 := by
  refine ⟨?_, ?_, rfl⟩
  · cases lo with
    | none => simp [sliceBounds, HT.sIx]
    | some i =>
      simp only [sliceBounds, HT.sIx, Option.getD_none, show (1 : Int) > 0 by decide, if_true]
      by_cases h : i < 0
      · simp only [h, if_true] <;> omega
      · simp only [h, if_false] <;> omega
  · cases hi with
    | none => simp [sliceBounds, HT.sIx]
    | some i =>
      simp only [sliceBounds, HT.sIx, Option.getD_none, show (1 : Int) > 0 by decide, if_true]
      by_cases h : i < 0
      · simp only [h, if_true] <;> omega
      · simp only [h, if_false] <;> omega
theorem slicePick_cut (its : List Value) (lo hi : Option Int) : slicePick its.toArray lo hi none = ((its.drop (HT.sIx its.length 0 lo)).take (HT.sIx its.length its.length hi - HT.sIx its.length 0 lo)).toArray := by
  obtain ⟨h1, h2, h3⟩ := slice_bounds lo hi its.toArray.size
  unfold slicePick
  rw [h1, h2, h3]
  simp only [sliceRange_one, pick_run, List.size_toArray] <;> rfl
/-- xs[lo:hi] of a list: a new list -/
def rSlL (K : PySem.W.Frag) : V → Option Int → Option Int → Hp → VK → Prop := fun x lo hi H Q => ∃ a xs, x = .ref a ∧ SqL K H a xs ∧ ∀ p, H p = none → Q (.ref p) (upd H p (.lst (cutV xs lo hi)))
theorem sl_list : SlR X (rSlL X.K) := by
  intro pins s σ H x v vl vu lo hi sl Q I rx hs pl pu h
  obtain ⟨a, xs, rfl, hx, q⟩ := h
  cases rx
  obtain ⟨its, r, ht, hz⟩ := I.list hx
  have hlen := r.length
  refine ⟨"list", _, slot_list_getitem.lookup, ht.isList.typeIs, ?_⟩
  refine wpAny_getItem_list_slice ht.isList hs pl pu .none (by simp) ?_ (by rw [List.size_toArray] <;> omega)
  rw [slicePick_cut, ← hlen]
  refine ⟨.ref s.heap.objs.size, _, I.laid (t' := s.toks) (o := .lst (cutV xs lo hi)) (fun b ob q => Heap.get?_push_of_some _ q) (Nat.le_refl _) ?_, rfl, q _ (I.hok.fresh (Nat.le_refl _))⟩
  exact ⟨Nat.le_trans (cutV_length xs lo hi) hz, _, 0, (r.drop (HT.sIx xs.length 0 lo)).take (HT.sIx xs.length xs.length hi - HT.sIx xs.length 0 lo), Heap.get?_push_size _ rfl⟩

/-! ### in, not in: flat items -/
def flatV : V → Bool
  | .non => true
  | .bl _ => true
  | .int _ => true
  | .str _ => true
  | _ => false
/-- == of flat values -/
def eqV : V → V → Bool
  | .non, .non => true
  | .bl a, .bl b => a == b
  | .bl a, .int b => (if a then 1 else 0) == b
  | .int a, .bl b => a == (if b then 1 else 0)
  | .int a, .int b => a == b
  | .str a, .str b => a == b
  | _, _ => false
theorem eqAt_V {A : Around} {s : Shared} {y x : V} {u v : Value} (ry : RelV y u) (rx : RelV x v) (fy : flatV y = true) (fx : flatV x = true) : SeqAt.EqAt A s u v (eqV y x) := by
  cases y with
  | non =>
    cases ry
    cases x with
    | non => cases rx; exact SeqAt.EqAt.same _
    | bl b => cases rx; exact SeqAt.EqAt.none_bool b
    | int b => obtain ⟨t, rfl⟩ := rx; exact SeqAt.EqAt.none_int b t
    | str b => obtain ⟨t, rfl⟩ := rx; exact SeqAt.EqAt.none_str b t
    | _ => exact absurd (show false = true from fx) Bool.false_ne_true
  | bl a =>
    cases ry
    cases x with
    | non => cases rx; exact SeqAt.EqAt.bool_none a
    | bl b => cases rx; exact SeqAt.EqAt.bool_bool a b
    | int b => obtain ⟨t, rfl⟩ := rx; exact SeqAt.EqAt.bool_int a b t
    | str b => obtain ⟨t, rfl⟩ := rx; exact SeqAt.EqAt.bool_str a b t
    | _ => exact absurd (show false = true from fx) Bool.false_ne_true
  | int a =>
    obtain ⟨t', rfl⟩ := ry
    cases x with
    | non => cases rx; exact SeqAt.EqAt.int_none a t'
    | bl b => cases rx; exact SeqAt.EqAt.int_bool a t' b
    | int b => obtain ⟨t, rfl⟩ := rx; exact SeqAt.EqAt.int_int a t' b t
    | str b => obtain ⟨t, rfl⟩ := rx; exact SeqAt.EqAt.int_str a t' b t
    | _ => exact absurd (show false = true from fx) Bool.false_ne_true
  | str a =>
    obtain ⟨t', rfl⟩ := ry
    cases x with
    | non => cases rx; exact SeqAt.EqAt.str_none a t'
    | bl b => cases rx; exact SeqAt.EqAt.str_bool a t' b
    | int b => obtain ⟨t, rfl⟩ := rx; exact SeqAt.EqAt.str_int a t' b t
    | str b => obtain ⟨t, rfl⟩ := rx; exact SeqAt.EqAt.str_str a t' b t
    | _ => exact absurd (show false = true from fx) Bool.false_ne_true
  | _ => exact absurd (show false = true from fy) Bool.false_ne_true
/-- the items' answers, read off the values (a value's own answer does not lean on its token) -/
def eqU (x : V) (u : Value) : Bool := match u with
  | .none => eqV .non x
  | .bool b => eqV (.bl b) x
  | .int i _ => eqV (.int i) x
  | .str z _ => eqV (.str z) x
  | _ => false
theorem eqU_of {x y : V} {u : Value} (r : RelV y u) (f : flatV y = true) : eqU x u = eqV y x := by
  cases y with
  | non => cases r; rfl
  | bl b => cases r; rfl
  | int i => obtain ⟨t, rfl⟩ := r; rfl
  | str z => obtain ⟨t, rfl⟩ := r; rfl
  | _ => exact absurd (show false = true from f) Bool.false_ne_true
theorem any_eqU {x : V} : ∀ {xs : List V} {us : List Value}, Vals xs us → xs.all flatV = true → us.any (eqU x) = xs.any fun y => eqV y x
  | _, _, .nil, _ => rfl
  | y :: xs, u :: us, .cons r t, f => by
    rw [List.all_cons, Bool.and_eq_true] at f
    rw [List.any_cons, List.any_cons, eqU_of r f.1, any_eqU t f.2]
theorem mem_eqAt {A : Around} {s : Shared} {x : V} {v : Value} (rx : RelV x v) (fx : flatV x = true) : ∀ {xs : List V} {us : List Value}, Vals xs us → xs.all flatV = true → ∀ u ∈ us, SeqAt.EqAt A s u v (eqU x u)
  | _, _, .nil, _ => fun u hu => by cases hu
  | y :: xs, u :: us, .cons r t, f => fun u' hu => by
    rw [List.all_cons, Bool.and_eq_true] at f
    rcases List.mem_cons.mp hu with rfl | hu
    · rw [eqU_of r f.1]; exact eqAt_V r rx f.1 fx
    · exact mem_eqAt rx fx t f.2 u' hu
def inV (x : V) (xs : List V) : Bool := xs.any fun y => eqV y x
/-- x in a list or tuple of flat items -/
def rIn (K : PySem.W.Frag) (neg : Bool) : R2 := fun x y H Q => ∃ p xs, y = .ref p ∧ (SqL K H p xs ∨ SqT K H p xs) ∧ flatV x = true ∧ xs.all flatV = true ∧ Q (.bl (if neg then !inV x xs else inV x xs)) H
theorem op_in_seq : OpR X (compareOp .In) (rIn X.K false) := by
  intro pins s σ H x y v u Q I rx ry h
  obtain ⟨p, xs, rfl, hq, fx, fs, q⟩ := h
  cases ry
  rcases hq with hq | hq
  · obtain ⟨its, r, pl, hz⟩ := I.list hq
    refine SeqAt.in_listAt (eqU x) pl.isList (fun w hw => mem_eqAt rx fx r fs w (by simpa using hw)) ⟨.bl _, H, I, rfl, ?_⟩
    rw [show its.toArray.any (eqU x) = its.any (eqU x) by simp, any_eqU r fs]
    exact q
  · obtain ⟨its, r, pl, hz⟩ := I.tuple hq
    refine SeqAt.in_tupleAt (eqU x) pl (fun w hw => mem_eqAt rx fx r fs w (by simpa using hw)) ⟨.bl _, H, I, rfl, ?_⟩
    rw [show its.toArray.any (eqU x) = its.any (eqU x) by simp, any_eqU r fs]
    exact q
theorem op_notIn_seq : OpR X (compareOp .NotIn) (rIn X.K true) := by
  intro pins s σ H x y v u Q I rx ry h
  obtain ⟨p, xs, rfl, hq, fx, fs, q⟩ := h
  cases ry
  rcases hq with hq | hq
  · obtain ⟨its, r, pl, hz⟩ := I.list hq
    refine SeqAt.notIn_listAt (eqU x) pl.isList (fun w hw => mem_eqAt rx fx r fs w (by simpa using hw)) ⟨.bl _, H, I, rfl, ?_⟩
    rw [show its.toArray.any (eqU x) = its.any (eqU x) by simp, any_eqU r fs]
    exact q
  · obtain ⟨its, r, pl, hz⟩ := I.tuple hq
    refine SeqAt.notIn_tupleAt (eqU x) pl (fun w hw => mem_eqAt rx fx r fs w (by simpa using hw)) ⟨.bl _, H, I, rfl, ?_⟩
    rw [show its.toArray.any (eqU x) = its.any (eqU x) by simp, any_eqU r fs]
    exact q
theorem op_notIn_str : OpR X (compareOp .NotIn) (fun x y H Q => ∃ i j, x = .str i ∧ y = .str j ∧ Q (.bl (!(!(Builtin.Str.occurrences j i 0 j.length 1).isEmpty))) H) := by
  intro pins s σ H x y v u Q I rx ry h
  obtain ⟨i, j, rfl, rfl, q⟩ := h
  obtain ⟨t, rfl⟩ := rx
  obtain ⟨t', rfl⟩ := ry
  exact notIn_str ⟨.bl _, H, I, rfl, q⟩

/-! ### len, list(x), tuple(x) of any list or tuple that is read -/
theorem call_len_seq : CallR X (.builtin "len") (fun xs H Q => ∃ p ys, xs = [.ref p] ∧ (SqL X.K H p ys ∨ SqT X.K H p ys) ∧ Q (.int ys.length) H) := by
  intro pins s σ H xs us Q I r h
  obtain ⟨p, ys, rfl, hq, q⟩ := h
  obtain ⟨u, rfl, rx⟩ := vals1 r
  cases rx
  have hn := line63
  rcases hq with hq | hq
  · obtain ⟨its, r', pl, hz⟩ := I.list hq
    have hlen := r'.length
    exact Calls.call_len_list pl.isList (by simp only [List.size_toArray] <;> omega) ⟨.int ys.length, H, I.tok _, ⟨s.toks + 1, by rw [List.size_toArray, hlen]⟩, q⟩
  · obtain ⟨its, r', pl, hz⟩ := I.tuple hq
    have hlen := r'.length
    exact len_tuple pl (by simp only [List.size_toArray] <;> omega) ⟨.int ys.length, H, I.tok _, ⟨s.toks + 1, by rw [List.size_toArray, hlen]⟩, q⟩
theorem call_len_str : CallR X (.builtin "len") (fun xs H Q => ∃ z, xs = [.str z] ∧ z.length ≤ sizeLine ∧ Q (.int z.length) H) := by
  intro pins s σ H xs us Q I r h
  obtain ⟨z, rfl, hz, q⟩ := h
  obtain ⟨u, rfl, t, rfl⟩ := vals1 r
  have hn := line63
  exact len_str (by omega) ⟨.int z.length, H, I.tok _, ⟨_, rfl⟩, q⟩
theorem CallR.or {f : Value} {r r' : List V → Hp → VK → Prop} (h : CallR X f r) (h' : CallR X f r') : CallR X f (fun xs H Q => r xs H Q ∨ r' xs H Q) := by
  intro pins s σ H xs us Q I rs q
  rcases q with q | q
  · exact h pins s σ H xs us Q I rs q
  · exact h' pins s σ H xs us Q I rs q
theorem call_list_of : CallR X (.type "list") (fun xs H Q => ∃ p ys, xs = [.ref p] ∧ (SqL X.K H p ys ∨ SqT X.K H p ys) ∧ ∀ l, H l = none → Q (.ref l) (upd H l (.lst ys))) := by
  intro pins s σ H xs us Q I r h
  obtain ⟨p, ys, rfl, hq, q⟩ := h
  obtain ⟨u, rfl, rx⟩ := vals1 r
  cases rx
  have fin : ∀ (its : List Value), Vals ys its → ys.length ≤ sizeLine → ∀ (h' : Heap) (c' : Nat), (∀ b o', s.heap.get? b = some o' → h'.get? b = some o') →
      h'.get? s.heap.objs.size = some { cls := .type "list", dict := none, data := .seq its.toArray c', slots := #[] } → EP X pins σ Q (.ref s.heap.objs.size) { s with heap := h' } := fun its r' hz h' c' kp e =>
    ⟨.ref s.heap.objs.size, _, I.laid (t' := s.toks) kp (Nat.le_refl _) (show ObjOk X.prog X.w _ h' _ (.lst ys) from ⟨hz, its, c', r', e⟩), rfl, q _ (I.hok.fresh (Nat.le_refl _))⟩
  rcases hq with hq | hq
  · obtain ⟨its, r', pl, hz⟩ := I.list hq
    have hlen := r'.length
    obtain ⟨o, ho, hc, n, hd⟩ := pl.isList
    exact call_list_seq p (.inl rfl) ho hc hd (fun h' c' kp e => fin its r' hz h' c' kp e) (by simp only [List.size_toArray] <;> omega)
  · obtain ⟨its, r', pl, hz⟩ := I.tuple hq
    have hlen := r'.length
    obtain ⟨o, ho, hc, n, hd⟩ := pl
    exact call_list_seq p (.inr rfl) ho hc hd (fun h' c' kp e => fin its r' hz h' c' kp e) (by simp only [List.size_toArray] <;> omega)
theorem call_tuple_of : CallR X (.type "tuple") (fun xs H Q => ∃ p ys, xs = [.ref p] ∧ ((SqL X.K H p ys ∧ ∀ l, H l = none → Q (.ref l) (upd H l (.tup ys))) ∨ (SqT X.K H p ys ∧ Q (.ref p) H))) := by
  intro pins s σ H xs us Q I r h
  obtain ⟨p, ys, rfl, h⟩ := h
  obtain ⟨u, rfl, rx⟩ := vals1 r
  cases rx
  rcases h with ⟨hq, q⟩ | ⟨hq, q⟩
  · obtain ⟨its, r', pl, hz⟩ := I.list hq
    have hlen := r'.length
    refine call_tuple_list pl.isList (fun h' kp => ?_) (by simp only [List.size_toArray] <;> omega)
    have I1 : Inv X pins σ H { s with heap := h' } := I.kept (t' := s.toks) kp
    have I2 : Inv X pins σ (upd H h'.objs.size (.tup ys)) { s with heap := h'.push { cls := .type "tuple", data := .seq its.toArray } } :=
      I1.laid (t' := s.toks) (fun b o e => Heap.get?_push_of_some _ e) (Nat.le_refl _) (show ObjOk X.prog X.w _ _ _ (.tup ys) from ⟨hz, its, r', IsTup.new _ _⟩)
    exact ⟨.ref h'.objs.size, _, I2, rfl, q _ (I1.hok.fresh (Nat.le_refl _))⟩
  · obtain ⟨its, r', pl, hz⟩ := I.tuple hq
    exact call_tuple_same pl ⟨.ref p, H, I, rfl, q⟩

/-! ### the call of a builtin's method: o.m(..) -/
/-- the value is of that builtin type -/
def tyV (K : PySem.W.Frag) (T : String) (x : V) (H : Hp) : Prop := match x with
  | .str _ => T = "str"
  | .int _ => T = "int"
  | .ref p => (T = "list" ∧ ∃ xs, SqL K H p xs) ∨ (T = "tuple" ∧ ∃ o, K.lookup p = some o ∧ o.cls = .type "tuple" ∧ o.dict = none) ∨
      (T = "dict" ∧ ((∃ kvs, H p = some (.dK kvs)) ∨ ∃ kvs, H p = some (.dT kvs))) ∨ (T = "set" ∧ ∃ S n, H p = some (.set S n))
  | _ => False
theorem tyV_is {pins : List (Addr × Obj)} {σ : St} {H : Hp} {s : Shared} {T : String} {x : V} {v : Value} (I : Inv X pins σ H s) (r : RelV x v) (ty : tyV X.K T x H) :
    s.TypeIs v T ∧ ∀ a, v = .ref a → ∃ ob, s.heap.get? a = some ob ∧ ob.dict = none := by
  cases x with
  | str z =>
    obtain ⟨t, rfl⟩ := r
    cases (show T = "str" from ty)
    exact ⟨typeIs_str s z t, fun _ e => nomatch e⟩
  | int i =>
    obtain ⟨t, rfl⟩ := r
    cases (show T = "int" from ty)
    exact ⟨typeIs_int s i t, fun _ e => nomatch e⟩
  | ref p =>
    cases r
    rcases ty with ⟨rfl, xs, hq⟩ | ⟨rfl, o, hk, hc, hd⟩ | ⟨rfl, hk⟩ | ⟨rfl, S, n, hk⟩
    · obtain ⟨its, _, pl, _⟩ := I.list hq
      refine ⟨pl.isList.typeIs, fun a e => ?_⟩
      cases e
      obtain ⟨o, n, e, c, hd, _⟩ := pl
      exact ⟨o, e, hd⟩
    · refine ⟨⟨o, I.kIn p o hk, hc⟩, fun a e => ?_⟩
      cases e
      exact ⟨o, I.kIn _ o hk, hd⟩
    · have z : ∃ o, s.heap.get? p = some o ∧ o.ExactDict := by
        rcases hk with ⟨kvs, hk⟩ | ⟨kvs, hk⟩
        · obtain ⟨_, _, _, _, o, _, _, e, ex, _⟩ := I.hok p _ hk
          exact ⟨o, e, ex⟩
        · obtain ⟨_, _, _, _, o, _, _, e, ex, _⟩ := I.hok p _ hk
          exact ⟨o, e, ex⟩
      obtain ⟨o, e, ex⟩ := z
      refine ⟨⟨o, e, ex.1⟩, fun a e2 => ?_⟩
      cases e2
      exact ⟨o, e, ex.2.1⟩
    · obtain ⟨o, _, _, _, e, ex, _⟩ := I.hok p _ hk
      refine ⟨⟨o, e, ex.1⟩, fun a e2 => ?_⟩
      cases e2
      exact ⟨o, e, ex.2.1⟩
  | _ => exact False.elim ty
def tBM0 (K : PySem.W.Frag) (T : String) (r : V → List V → Hp → VK → Prop) (to : TE) : TE := fun σ H Q => to σ H fun x H1 => tyV K T x H1 ∧ r x [] H1 Q
def tBM (K : PySem.W.Frag) (T : String) (r : V → List V → Hp → VK → Prop) (to : TE) (t : TA) : TE := fun σ H Q => to σ H fun x H1 => tyV K T x H1 ∧ t σ H1 fun xs H2 => r x xs H2 Q
variable {o e : Expr} {es : List Expr} {to : TE} {t : TA} {name : Str} {apos cpos : Pos} {T id : String} {r : V → List V → Hp → VK → Prop}
theorem pe_bm0 (pa : PlainAttrs T) (slot : Slot T name id) (hty : typeOf (.builtin id) = pure (.type "method_descriptor")) (hm : MtR X id r) (ho : PE X o to)
    (hbase : attributeBase o name X.env (eval o X.env) = eval o X.env := by rfl) (hline : (apos.endLine == cpos.line) = true := by rfl) : PE X (.Call (.Attribute o name apos) [] [] cpos) (tBM0 X.K T r to) := by
  intro pins s σ H Q I h
  refine wpAny_Call_method0_late hbase hline (thn (ho pins s σ H _ I h) fun v s1 ⟨x, H1, I1, r1, ty, q1⟩ => ?_)
  obtain ⟨h1, h2⟩ := tyV_is I1 r1 ty
  exact ⟨T, id, pa, slot, hty, h1, h2, Calls.callWith_builtin rfl (PySem.evalArgs_none (hm pins s1 σ H1 x [] v [] Q I1 r1 .nil q1))⟩
theorem pe_bm (pa : PlainAttrs T) (slot : Slot T name id) (hty : typeOf (.builtin id) = pure (.type "method_descriptor")) (hm : MtR X id r) (ho : PE X o to) (ha : PA X (e :: es) t)
    (hbase : attributeBase o name X.env (eval o X.env) = eval o X.env := by rfl)
    (hfew : ((backTo cpos (starEach (e :: es) X.env)).all (fun x => !x.1) && (backToKw cpos (keywordEach [] X.env)).all (fun x => x.1.isSome)
      && decide ((e :: es).length + ([] : List Keyword).length + (if ([] : List Keyword).isEmpty then 0 else 1) < 30)) = true := by rfl)
    (hline : (apos.endLine == cpos.line) = true := by rfl) (hs : starEach (e :: es) X.env = (false, eval e X.env) :: starEach es X.env := by rfl) (hplain : (backTo cpos (starEach es X.env)).any (·.1) = false := by rfl) :
    PE X (.Call (.Attribute o name apos) (e :: es) [] cpos) (tBM X.K T r to t) := by
  intro pins s σ H Q I h
  refine wpAny_Call_method_late hbase hfew hline rfl (thn (ho pins s σ H _ I h) fun v s1 ⟨x, H1, I1, r1, ty, q1⟩ => ?_)
  obtain ⟨h1, h2⟩ := tyV_is I1 r1 ty
  refine ⟨T, id, pa, slot, hty, h1, h2, ?_⟩
  have hA := ha cpos pins s1 σ H1 _ I1 q1
  rw [hs] at hA ⊢
  refine Calls.callWith_builtin (by show (false || (backTo cpos (starEach es X.env)).any (·.1)) = false; rw [hplain] <;> rfl) (Calls.evalArgs_plain ?_)
  exact thn hA fun us s2 ⟨vs, H2, I2, r2, q2⟩ => hm pins s2 σ H2 x vs v us Q I2 r1 r2 q2
/- xs.append(e), list.index on a module's tuple .. are MtR facts of 06m -/
end
end L2

namespace L2
open PySem PySem.Spec PyProof.Rows

def MtM (X : Cx) (id : String) (r : V → List V → Hp → VK → Prop) : Prop :=
  ∀ (pins : List (Addr × Obj)) (s : Shared) (σ : St) (H : Hp) (x : V) (xs : List V) (v : Value) (us : List Value) (Q : VK), Inv X pins σ H s → RelV x v → Vals xs us → r x xs H Q →
    wpAny (model X.prog X.w) X.A (call (.builtin id) (v :: us)) (EP X pins σ Q) X.xe s

/-! ### lists of values -/
theorem Vals.one : ∀ {x : V} {us : List Value}, Vals [x] us → ∃ u, us = [u] ∧ RelV x u
  | _, _, .cons r .nil => ⟨_, rfl, r⟩
theorem Vals.two : ∀ {x y : V} {us : List Value}, Vals [x, y] us → ∃ u v, us = [u, v] ∧ RelV x u ∧ RelV y v
  | _, _, _, .cons r (.cons q .nil) => ⟨_, _, rfl, r, q⟩
theorem Vals.zero : ∀ {us : List Value}, Vals [] us → us = []
  | _, .nil => rfl
theorem Vals.dropLast {xs : List V} {us : List Value} (h : Vals xs us) : Vals xs.dropLast us.dropLast := by
  induction h with
  | nil => exact .nil
  | cons r t ih =>
    cases t with
    | nil => exact .nil
    | cons q t' => exact .cons r ih
theorem Vals.eraseIdx : ∀ {xs : List V} {us : List Value} (i : Nat), Vals xs us → Vals (xs.eraseIdx i) (us.eraseIdx i)
  | _, _, _, .nil => .nil
  | _, _, 0, .cons _ t => t
  | _, _, i + 1, .cons r t => .cons r (Vals.eraseIdx i t)
theorem Vals.reverse {xs : List V} {us : List Value} (h : Vals xs us) : Vals xs.reverse us.reverse := by
  induction h with
  | nil => exact .nil
  | cons r t ih => rw [List.reverse_cons, List.reverse_cons]; exact Vals.append ih (.cons r .nil)
theorem Vals.rep {xs : List V} {us : List Value} (h : Vals xs us) : ∀ k : Nat, Vals (List.replicate k xs).flatten (List.replicate k us).flatten
  | 0 => .nil
  | k + 1 => by
    rw [List.replicate_succ, List.replicate_succ, List.flatten_cons, List.flatten_cons]
    exact Vals.append h (Vals.rep h k)
theorem erase_last {α : Type} (l : List α) : l.eraseIdx (l.length - 1) = l.dropLast := by
  induction l with
  | nil => rfl
  | cons a r ih =>
    cases r with
    | nil => rfl
    | cons b r =>
      have e : (a :: b :: r).length - 1 = ((b :: r).length - 1) + 1 := by
        have h1 : (a :: b :: r).length = r.length + 2 := rfl
        have h2 : (b :: r).length = r.length + 1 := rfl
        omega
      rw [e, List.eraseIdx_cons_succ, ih]
      all_goals rfl
theorem len_erase {α : Type} : ∀ (l : List α) (i : Nat), (l.eraseIdx i).length ≤ l.length
  | [], _ => Nat.le_refl _
  | _ :: _, 0 => Nat.le_succ _
  | _ :: r, i + 1 => Nat.succ_le_succ (len_erase r i)
theorem foldl_rep (its : List Value) : ∀ (k : Nat) (acc : List Value),
    List.foldl (fun x1 x2 => x1 ++ x2) acc.toArray (List.replicate k its.toArray) = (acc ++ (List.replicate k its).flatten).toArray
  | 0, acc => by simp
  | k + 1, acc => by
    have e : acc.toArray ++ its.toArray = (acc ++ its).toArray := by simp
    have e2 : (acc ++ its) ++ (List.replicate k its).flatten = acc ++ (List.replicate (k + 1) its).flatten := by
      rw [List.replicate_succ, List.flatten_cons, List.append_assoc]
    rw [← e2, ← foldl_rep its k (acc ++ its), ← e, List.replicate_succ, List.foldl_cons]

section
variable {X : Cx} {pins : List (Addr × Obj)} {σ : St} {H : Hp} {s : Shared} {l b : Addr} {xs ys zs : List V}

/-! ### the two steps: a tracked list is rewritten, a new list is laid -/
theorem Inv.lset {its its' : List Value} {n : Nat} {f : Array Value → Array Value} {t' : Nat} (I : Inv X pins σ H s) (hH : H l = some (.lst xs))
    (e : s.heap.get? l = some { cls := .type "list", data := .seq its.toArray n }) (hf : f its.toArray = its'.toArray) (hv : Vals ys its') (hz : ys.length ≤ sizeLine) :
    Inv X pins σ (upd H l (.lst ys)) { s with heap := s.heap.update l (Obj.mapSeq f), toks := t' } := by
  have q := PySem.IsL.update e f
  rw [hf] at q
  refine I.write (x := l) (e := l) (by rw [hH]; exact trivial) (.inl rfl) (fun b' u hb hu => (Heap.get?_update_other s.heap (Obj.mapSeq f) (Ne.symm hb)).trans hu) ⟨_, q⟩ ?_
  exact ⟨hz, its', _, hv, q⟩
theorem Inv.lnew {its : List Value} {t' : Nat} (I : Inv X pins σ H s) (hv : Vals ys its) (hz : ys.length ≤ sizeLine) :
    Inv X pins σ (upd H s.heap.objs.size (.lst ys)) { s with heap := s.heap.push { cls := .type "list", data := .seq its.toArray }, toks := t' } :=
  I.laid (fun _ _ q => Heap.get?_push_of_some _ q) (Nat.le_refl _) ⟨hz, its, 0, hv, Heap.get?_push_size _ rfl⟩
theorem Inv.fresh (I : Inv X pins σ H s) : H s.heap.objs.size = none := I.hok.fresh (Nat.le_refl _)
theorem Inv.lstM (I : Inv X pins σ H s) (hH : H l = some (.lst xs)) : xs.length ≤ sizeLine ∧ ∃ (its : List Value) (n : Nat), Vals xs its ∧ xs.length = its.length ∧ s.heap.get? l = some { cls := .type "list", data := .seq its.toArray n } := by
  obtain ⟨z, its, n, r, e⟩ := I.hok l _ hH
  exact ⟨z, its, n, r, r.length, e⟩

theorem notLongL {n : Nat} (h : n ≤ sizeLine) : Builtin.List.listTooLong n = false := by
  unfold Builtin.List.listTooLong
  exact decide_eq_false (by omega)
end

section
variable {X : Cx}

/-! ### methods -/
def rAppend : V → List V → Hp → VK → Prop := fun x vs H Q => ∃ l xs y, x = .ref l ∧ vs = [y] ∧ H l = some (.lst xs) ∧ xs.length < sizeLine ∧ Q .non (upd H l (.lst (xs ++ [y])))
theorem mt_append : MtM X "list.append" rAppend := by
  intro pins s σ H x vs v us Q I rx rv h
  obtain ⟨l, xs, y, rfl, rfl, hH, hz, q⟩ := h
  cases rx
  obtain ⟨u, rfl, ru⟩ := rv.one
  obtain ⟨z, its, n, r, hl, e⟩ := I.lstM hH
  refine call_meets F.slot_list_append ⟨_, e, rfl⟩ F.entry_list_append (F.args_list_append_2 _ _) (PySem.list_append l its.toArray n u (by rw [List.size_toArray]; omega)) ⟨e, ?_⟩
  refine ⟨.non, _, I.lset (its' := its ++ [u]) hH e (by simp) (r.append (.cons ru .nil)) ?_, rfl, q⟩
  rw [List.length_append, List.length_singleton]
  omega

def rExtend : V → List V → Hp → VK → Prop := fun x vs H Q => ∃ l b xs zs, x = .ref l ∧ vs = [.ref b] ∧ H l = some (.lst xs) ∧ H b = some (.lst zs) ∧ xs.length + zs.length ≤ sizeLine ∧ Q .non (upd H l (.lst (xs ++ zs)))
theorem mt_extend : MtM X "list.extend" rExtend := by
  intro pins s σ H x vs v us Q I rx rv h
  obtain ⟨l, b, xs, zs, rfl, rfl, hH, hB, hz, q⟩ := h
  cases rx
  obtain ⟨u, rfl, ru⟩ := rv.one
  cases ru
  obtain ⟨z, its, n, r, hl, e⟩ := I.lstM hH
  obtain ⟨z2, its2, n2, r2, hl2, e2⟩ := I.lstM hB
  have hsz : its.toArray.size + its2.toArray.size ≤ sizeLine := by rw [List.size_toArray, List.size_toArray]; omega
  have hlong : ¬ (!its.toArray.isEmpty && Builtin.List.listTooLong (its.toArray.size + its2.toArray.size)) = true := by
    rw [notLongL hsz, Bool.and_false]
    exact Bool.false_ne_true
  refine call_meets F.slot_list_extend ⟨_, e, rfl⟩ F.entry_list_extend (F.args_list_extend_2 _ _)
    (AutoSeq1.list_extend_list_list_0 l its.toArray n b its2.toArray n2 hlong (by rw [List.size_toArray]; omega) (by omega)) ⟨e, e2, ?_⟩
  refine ⟨.non, _, I.lset (its' := its ++ its2) hH e (by simp) (r.append r2) ?_, rfl, q⟩
  rw [List.length_append]
  omega

def rPop : V → List V → Hp → VK → Prop := fun x vs H Q => ∃ l xs y, x = .ref l ∧ vs = [] ∧ H l = some (.lst xs) ∧ xs[xs.length - 1]? = some y ∧ Q y (upd H l (.lst xs.dropLast))
theorem mt_pop : MtM X "list.pop" rPop := by
  intro pins s σ H x vs v us Q I rx rv h
  obtain ⟨l, xs, y, rfl, rfl, hH, hy, q⟩ := h
  cases rx
  have hus := rv.zero
  subst hus
  obtain ⟨z, its, n, r, hl, e⟩ := I.lstM hH
  obtain ⟨u, hu, ru⟩ := r.get hy
  have hy' : its.toArray[its.toArray.size - 1]? = some u := by
    show its.toArray[its.length - 1]? = some u
    rw [← Array.getElem?_toList, ← hl]
    exact hu
  refine call_meets F.slot_list_pop ⟨_, e, rfl⟩ F.entry_list_pop (F.args_list_pop_1 _) (MeetsSeq.list_pop_last l its.toArray n u hy' (by rw [List.size_toArray]; omega)) ⟨e, ?_⟩
  refine ⟨y, _, I.lset (its' := its.dropLast) hH e ?_ r.dropLast ?_, ru, q⟩
  · show its.toArray.eraseIdxIfInBounds (its.toArray.size - 1) = its.dropLast.toArray
    rw [List.size_toArray, List.eraseIdxIfInBounds_toArray, erase_last]
  · rw [List.length_dropLast]
    omega

def rPopAt : V → List V → Hp → VK → Prop := fun x vs H Q => ∃ l xs i k y, x = .ref l ∧ vs = [.int i] ∧ H l = some (.lst xs) ∧ -(2 ^ 63) ≤ i ∧ i < 2 ^ 63 ∧ seqIndex? i xs.length = some k ∧ xs[k]? = some y ∧ Q y (upd H l (.lst (xs.eraseIdx k)))
theorem mt_popAt : MtM X "list.pop" rPopAt := by
  intro pins s σ H x vs v us Q I rx rv h
  obtain ⟨l, xs, i, k, y, rfl, rfl, hH, h1, h2, hk, hy, q⟩ := h
  cases rx
  obtain ⟨u, rfl, ru⟩ := rv.one
  obtain ⟨t, rfl⟩ := ru
  obtain ⟨z, its, n, r, hl, e⟩ := I.lstM hH
  obtain ⟨w, hw, rw'⟩ := r.get hy
  refine call_meets F.slot_list_pop ⟨_, e, rfl⟩ F.entry_list_pop (F.args_list_pop_2 _ _)
    (MeetsSeq.list_pop_at l its.toArray n i t k w (fitsIndex_both h1 h2) (by rw [List.size_toArray, ← hl]; exact hk) (by rw [← Array.getElem?_toList]; exact hw) (by rw [List.size_toArray]; omega)) ⟨e, ?_⟩
  refine ⟨y, _, I.lset (its' := its.eraseIdx k) hH e ?_ (r.eraseIdx k) ?_, rw', q⟩
  · show its.toArray.eraseIdxIfInBounds k = (its.eraseIdx k).toArray
    rw [List.eraseIdxIfInBounds_toArray]
  · have := len_erase xs k
    omega

def rReverse : V → List V → Hp → VK → Prop := fun x vs H Q => ∃ l xs, x = .ref l ∧ vs = [] ∧ H l = some (.lst xs) ∧ Q .non (upd H l (.lst xs.reverse))
theorem mt_reverse : MtM X "list.reverse" rReverse := by
  intro pins s σ H x vs v us Q I rx rv h
  obtain ⟨l, xs, rfl, rfl, hH, q⟩ := h
  cases rx
  have hus := rv.zero
  subst hus
  obtain ⟨z, its, n, r, hl, e⟩ := I.lstM hH
  refine call_meets F.slot_list_reverse ⟨_, e, rfl⟩ F.entry_list_reverse (F.args_list_reverse_1 _) (AutoSeq1.list_reverse_list_0 l its.toArray n (by rw [List.size_toArray]; omega)) ⟨e, ?_⟩
  refine ⟨.non, _, I.lset (its' := its.reverse) hH e (by simp) r.reverse ?_, rfl, q⟩
  rw [List.length_reverse]
  omega

def rClear : V → List V → Hp → VK → Prop := fun x vs H Q => ∃ l xs, x = .ref l ∧ vs = [] ∧ H l = some (.lst xs) ∧ Q .non (upd H l (.lst []))
theorem mt_clear : MtM X "list.clear" rClear := by
  intro pins s σ H x vs v us Q I rx rv h
  obtain ⟨l, xs, rfl, rfl, hH, q⟩ := h
  cases rx
  have hus := rv.zero
  subst hus
  obtain ⟨z, its, n, r, hl, e⟩ := I.lstM hH
  refine call_meets F.slot_list_clear ⟨_, e, rfl⟩ F.entry_list_clear (F.args_list_clear_1 _) (AutoSeq1.list_clear_list_0 l its.toArray n (by rw [List.size_toArray]; omega)) ⟨e, ?_⟩
  exact ⟨.non, _, I.lset (its' := []) (ys := []) hH e rfl .nil (Nat.zero_le _), rfl, q⟩

/-! ### list + list, list += list, list * int -/
def rCat : R2 := fun x y H Q => ∃ l b xs zs, x = .ref l ∧ y = .ref b ∧ H l = some (.lst xs) ∧ H b = some (.lst zs) ∧ xs.length + zs.length ≤ sizeLine ∧ ∀ p, H p = none → Q (.ref p) (upd H p (.lst (xs ++ zs)))
theorem op_cat : OpR X (binaryOp .Add) rCat := by
  intro pins s σ H x y v u Q I rx ry h
  obtain ⟨l, b, xs, zs, rfl, rfl, hH, hB, hz, q⟩ := h
  cases rx
  cases ry
  obtain ⟨z, its, n, r, hl, e⟩ := I.lstM hH
  obtain ⟨z2, its2, n2, r2, hl2, e2⟩ := I.lstM hB
  refine PySem.P.add_list e e2 ?_ (by rw [List.size_toArray, List.size_toArray]; omega)
  have ea : its.toArray ++ its2.toArray = (its ++ its2).toArray := by simp
  rw [ea]
  exact ⟨.ref _, _, I.lnew (t' := s.toks) (r.append r2) (by rw [List.length_append]; omega), rfl, q _ I.fresh⟩
/-- a list times an int (a negative one is nothing) -/
def rRep : R2 := fun x y H Q => ∃ l k xs, x = .ref l ∧ y = .int k ∧ H l = some (.lst xs) ∧ -(2 ^ 63) ≤ k ∧ k < 2 ^ 63 ∧ xs.length * k.toNat ≤ sizeLine ∧
  ∀ p, H p = none → Q (.ref p) (upd H p (.lst (List.replicate k.toNat xs).flatten))
theorem len_rep {α : Type} (xs : List α) (k : Nat) : (List.replicate k xs).flatten.length = k * xs.length := by
  induction k with
  | zero => simp
  | succ k ih => rw [List.replicate_succ, List.flatten_cons, List.length_append, ih, Nat.succ_mul, Nat.add_comm]
theorem op_rep : OpR X (binaryOp .Mult) rRep := by
  intro pins s σ H x y v u Q I rx ry h
  obtain ⟨l, k, xs, rfl, rfl, hH, h1, h2, hz, q⟩ := h
  cases rx
  obtain ⟨t, rfl⟩ := ry
  obtain ⟨z, its, n, r, hl, e⟩ := I.lstM hH
  have hlen : its.toArray.size * k.toNat ≤ sizeLine := by rw [List.size_toArray, ← hl]; exact hz
  have hcap : ¬ its.toArray.size * k.toNat > (2 ^ 63 - 1) / 8 := by
    have : (sizeLine : Nat) ≤ (2 ^ 63 - 1) / 8 := by decide
    omega
  have hfit : ¬ (!Builtin.List.listFitsIndex k) = true := by
    rw [fitsIndex_both h1 h2]
    exact Bool.false_ne_true
  have hlong : ¬ Builtin.List.listTooLong (its.toArray.size * k.toNat) = true := by
    rw [notLongL hlen]
    exact Bool.false_ne_true
  have hnew : List.foldl (fun x1 x2 => x1 ++ x2) #[] (List.replicate (if its.toArray.isEmpty = true then 0 else k.toNat) its.toArray) = (List.replicate k.toNat its).flatten.toArray := by
    have f0 : ∀ m : Nat, List.foldl (fun x1 x2 => x1 ++ x2) #[] (List.replicate m its.toArray) = (List.replicate m its).flatten.toArray := fun m => by
      have := foldl_rep its m []
      rw [List.nil_append] at this
      exact this
    rw [f0]
    cases its with
    | nil => simp
    | cons a r' => rw [if_neg (by simp)]
  refine wpAny_binaryOp_repeat_ref (T := "list") (U := "int") (by decide) ⟨_, e, rfl⟩ (fun s' => typeIs_int s' k t) noFill_list_mul F.fills_int_mul F.slot_int_rmul repeat_list F.slot_int_index.lookup
    (call_meets F.slot_int_rmul (typeIs_int s k t) F.entry_int_rmul (F.args_int_rmul_2 _ _) (int___rmul___int_list k t l its.toArray n)
      ⟨e, rfl, ⟨_, e, rfl⟩, call_meets F.slot_list_mul ⟨_, e, rfl⟩ F.entry_list_mul (F.args_list_mul_2 _ _) (AutoListH.list___mul___list_int_3 l its.toArray n k t hfit hcap hlong) ⟨e, ?_⟩⟩)
  rw [hnew]
  exact ⟨.ref _, _, I.lnew (t' := s.toks) (r.rep k.toNat) (by rw [len_rep, Nat.mul_comm]; exact hz), rfl, q _ I.fresh⟩

/-! ### del xs[i] -/
theorem del_list {pins : List (Addr × Obj)} {s : Shared} {σ : St} {H : Hp} {l : Addr} {xs : List V} {i : Int} {t : Tok} {k : Nat} {Q : Unit → Shared → Prop} (I : Inv X pins σ H s) (hH : H l = some (.lst xs))
    (h1 : -(2 ^ 63) ≤ i) (h2 : i < 2 ^ 63) (hk : seqIndex? i xs.length = some k) (h : ∀ s', Inv X pins σ (upd H l (.lst (xs.eraseIdx k))) s' → Q () s') :
    wpAny (model X.prog X.w) X.A (delItem (.ref l) (.int i t)) Q X.xe s := by
  obtain ⟨z, its, n, r, hl, e⟩ := I.lstM hH
  refine PySem.P.delItem_list (k := k) e (fitsIndex_both h1 h2) (by rw [List.size_toArray, ← hl]; exact hk) (h _ ?_) (by rw [List.size_toArray]; omega)
  refine I.lset (its' := its.eraseIdx k) (t' := s.toks) hH e ?_ (r.eraseIdx k) ?_
  · show its.toArray.eraseIdxIfInBounds k = (its.eraseIdx k).toArray
    rw [List.eraseIdxIfInBounds_toArray]
  · have := len_erase xs k
    omega
end

/-! ### xs[a:b] = ys -/
section
variable {prog : Program} {w : World} {A : Around} {E : Value → Shared → Prop} {s : Shared}
theorem splice_eq (its its2 : List Value) (a c : Nat) : its.toArray.extract 0 a ++ its2.toArray ++ its.toArray.extract c its.toArray.size = (its.take a ++ its2 ++ its.drop c).toArray := by
  apply Array.toList_inj.mp
  first
    | (simp
       exact List.take_of_length_le (by simp))
    | simp [List.take_of_length_le]
    | simp
theorem bounds_run {a c n : Nat} (hac : a ≤ c) (hc : c ≤ n) : sliceBounds (some (a : Int)) (some (c : Int)) none n = ((a : Int), (c : Int), 1) := by
  simp only [sliceBounds, Option.getD_none]
  have h1 : ¬ ((a : Int) < 0) := by omega
  have h2 : ¬ ((c : Int) < 0) := by omega
  simp only [h1, h2, if_false, show (1 : Int) > 0 by decide, if_true]
  congr 1
  · omega
  · congr 1; omega
set_option maxRecDepth 100000 in
/-- list.__setitem__ with a slice of step one and another list -/
theorem setItem_slice {l b sl : Addr} {items new : Array Value} {n n2 : Nat} {vl vu : Value} {a c : Nat} {Q : Unit → Shared → Prop}
    (e : s.heap.get? l = some { cls := .type "list", data := .seq items n }) (e2 : s.heap.get? b = some { cls := .type "list", data := .seq new n2 }) (hne : l ≠ b)
    (hs : s.heap.IsSliceOf sl vl vu .none) (pl : IsPart vl (some (a : Int))) (pu : IsPart vu (some (c : Int))) (hac : a ≤ c) (hc : c ≤ items.size)
    (hsz : items.size + new.size ≤ sizeLine) (h : Q () { s with heap := s.heap.update l (Obj.mapSeq fun xs => xs.extract 0 a ++ new ++ xs.extract c xs.size) }) :
    wpAny (model prog w) A (setItem (.ref l) (.ref sl) (.ref b)) Q E s := by
  have hl : s.heap.IsList l items := PySem.IsL.isList e
  have hb : s.heap.IsList b new := PySem.IsL.isList e2
  obtain ⟨os, hos, hcs, hds⟩ := id hs
  have hTs : s.TypeIs (.ref sl) "slice" := ⟨os, hos, hcs⟩
  have hstep : ¬ ((rawPart none == rawInt 0) = true) := Bool.false_ne_true
  have hsame : Builtin.List.listSameRef (.ref l) (.ref b) = false := by
    unfold Builtin.List.listSameRef
    exact beq_eq_false_iff_ne.mpr hne
  have hmax : (max (a : Int) (c : Int)).toNat = c := by omega
  have hz' : ((fun xs : Array Value => xs.extract 0 a ++ new ++ xs.extract c xs.size) items).size ≤ sizeLine + 1 := by
    simp only [Array.size_append, Array.size_extract]
    omega
  unfold setItem
  try with_reducible refine wpAny_holding ?_
  first | refine wpAny_bind (wpAny_pure ?_) | skip
  refine wpAny_bind (wpAny_sequenceKey hl.typeIs (by decide) ?_)
  refine wpAny_bind (wpAny_callSpecial?_slot (name := Str.ofString "__setitem__") hl.typeIs slot_list_setitem
    (wpAny_call_entry slot_list_setitem hl.typeIs entry_list_setitem ?_ (args_list_setitem _ _ _)))
  show wpAny _ _ (Builtin.List.listSubscript? (.ref sl) >>= _) _ _ s
  refine wpAny_bind ?_
  unfold Builtin.List.listSubscript?
  refine wpAny_bind (wpAny_specialOf hTs slice_no_index ?_)
  simp only [Option.isNone_none, if_true]
  refine wpAny_pure ?_
  show wpAny _ _ (typeOf (.ref sl) >>= _) _ _ s
  refine wpAny_bind (wpAny_typeOf hTs ?_)
  first
    | rw [if_neg (by decide)]
    | refine PySem.W.KFB.if_not (by decide) ?_
  rw [listSliceParts_eq]
  refine wpAny_bind (wpAny_bind (wpAny_field hos hds (x := .none) rfl (wpAny_bind (wpAny_listPart .none ?_))))
  rw [if_neg hstep]
  refine wpAny_bind (wpAny_field hos hds (x := vl) rfl (wpAny_bind (wpAny_listPart pl ?_)))
  refine wpAny_bind (wpAny_field hos hds (x := vu) rfl (wpAny_bind (wpAny_listPart pu (wpAny_pure ?_))))
  first
    | simp only [hsame, Bool.false_eq_true, if_false]
    | refine PySem.W.KFB.if_not hsame ?_
    | (dsimp only
       rw [if_neg (by rw [hsame]; exact Bool.false_ne_true)])
  refine wpAny_bind (m := Builtin.List.listAllItems (.ref b) "must assign iterable to extended slice") ?_
  unfold Builtin.List.listAllItems
  refine wpAny_bind (wpAny_typeOf hb.typeIs ?_)
  first
    | refine PySem.W.KFB.if_so (by decide) ?_
    | rw [if_pos (by decide)]
    | simp only [beq_self_eq_true, Bool.true_or, if_true]
  unfold Builtin.List.listItems
  refine wpAny_bind (wpAny_seqItems e2 rfl (wpAny_pure ?_))
  refine wpAny_bind (wpAny_bind (wpAny_seqItems e rfl (wpAny_pure ?_)))
  refine wpAny_bind (wpAny_of_eq ((sliceIndices_raw (some (a : Int)) (some (c : Int)) none items.size (by simp)).trans (congrArg (pure : Int × Int × Int → Sem (Int × Int × Int)) (bounds_run hac hc))) ?_)
  show wpAny _ _ (if ((1 : Int) == 1) = true then _ else _) _ _ s
  rw [if_pos (by decide)]
  refine wpAny_bind (wpAny_rule ?_)
  first
    | simp only [notLongL hsz, Bool.false_eq_true, if_false]
    | refine PySem.W.KFB.if_not (notLongL hsz) ?_
  first | refine wpAny_bind (wpAny_pure ?_) | skip
  show wpAny _ _ (updateSeq l (fun xs => xs.extract 0 ((a : Int)).toNat ++ new ++ xs.extract (max (a : Int) (c : Int)).toNat xs.size) >>= _) _ _ s
  rw [hmax, Int.toNat_natCast]
  refine wpAny_bind (wpAny_updateSeq (hz := Nat.le_trans (Nat.le_add_right _ _) hsz) (_hz' := hz') e rfl ?_)
  refine wpAny_bind (wpAny_letGo ?_)
  first
    | exact wpAny_bind (wpAny_pure (wpAny_pure ⟨.none, rfl, wpAny_pure h⟩))
    | exact wpAny_pure ⟨.none, rfl, wpAny_pure h⟩
end

section
variable {X : Cx}
/-- xs[a:c] = ys of another list, at the value level: sl is the slice object that was just made -/
theorem set_slice {pins : List (Addr × Obj)} {s : Shared} {σ : St} {H : Hp} {l b sl : Addr} {xs ys : List V} {a c : Int} {vl vu : Value} {Q : Unit → Shared → Prop} (I : Inv X pins σ H s)
    (hH : H l = some (.lst xs)) (hB : H b = some (.lst ys)) (hne : l ≠ b) (hs : s.heap.IsSliceOf sl vl vu .none) (ra : RelV (.int a) vl) (rc : RelV (.int c) vu) (h0 : 0 ≤ a) (hac : a ≤ c) (hc : c ≤ xs.length)
    (hz : xs.length + ys.length ≤ sizeLine) (h : ∀ s', Inv X pins σ (upd H l (.lst (xs.take a.toNat ++ ys ++ xs.drop c.toNat))) s' → Q () s') :
    wpAny (model X.prog X.w) X.A (setItem (.ref l) (.ref sl) (.ref b)) Q X.xe s := by
  obtain ⟨ta, rfl⟩ := ra
  obtain ⟨tc, rfl⟩ := rc
  obtain ⟨z, its, n, r, hl, e⟩ := I.lstM hH
  obtain ⟨z2, its2, n2, r2, hl2, e2⟩ := I.lstM hB
  obtain ⟨a', rfl⟩ := Int.eq_ofNat_of_zero_le h0
  obtain ⟨c', rfl⟩ := Int.eq_ofNat_of_zero_le (Int.le_trans h0 hac)
  simp only [Int.toNat_natCast] at h
  refine setItem_slice (a := a') (c := c') e e2 hne hs (.int _ _) (.int _ _) (by omega) (by rw [List.size_toArray]; omega) (by rw [List.size_toArray, List.size_toArray]; omega) (h _ ?_)
  refine I.lset (its' := its.take a' ++ its2 ++ its.drop c') (t' := s.toks) hH e ?_ (Vals.append (Vals.append (r.take _) r2) (r.drop _)) ?_
  · exact splice_eq its its2 a' c'
  · rw [List.length_append, List.length_append, List.length_take, List.length_drop]
    omega
end
end L2

namespace Att
open PySem PySem.W PySem.Calls PyProof.Rows

/-! ### the script -/
theorem ints_of_wellAll {P : Params} {h : Heap} : ∀ (ns : List Int) (vs : List Value), WellAll P h vs (ns.map WData.int) → IntsAre vs ns := by
  intro ns
  induction ns with
  | nil =>
    intro vs w
    rw [List.map_nil] at w
    cases w
    exact .nil
  | cons n ns ih =>
    intro vs w
    rw [List.map_cons] at w
    cases w with
    | cons a b =>
      cases a
      exact .cons _ _ (ih _ b)

theorem script_of {l : OpenLaw} {n : Nat} (hn : l.most = some n) {P : Params} {h : Heap} {args : List WData} {vals : List Value}
    (hpre : l.row.toRowW.claim.pre args = true) (hwl : WellAll P h vals args) :
    ∃ a vs ns, vals = [Value.ref a] ∧ args = [WData.list (ns.map WData.int)] ∧ h.get? a = some { cls := .type "list", data := .seq vs.toArray } ∧ IntsAre vs ns ∧ ns.length ≤ n := by
  have hsh : WShape.hasAll [] args [.list .int] = true := (pre_splitW hpre).1
  have hc : l.pre.holds [] { args := args } = true := (pre_splitW hpre).2
  obtain ⟨d, r, rfl, h1, h2⟩ := hasAllW_cons hsh
  obtain rfl := hasAllW_nil h2
  obtain ⟨xs, rfl, h3⟩ := hasW_list h1
  obtain ⟨ns, rfl⟩ := items_int h3
  have hlen : ns.length ≤ n := by
    unfold OpenLaw.pre at hc
    have h4 : (WTm.not (.lt (.lit (.int (n : Int))) (.len (.arg 0)))).holds [] { args := [.list (ns.map .int)] } = true := by
      have h4 := (holds_andW hc).1
      rw [hn] at h4
      exact h4
    have h5 := condW_of h4 (w_not (w_lt w_lit (w_len_list (w_arg rfl))))
    rw [List.length_map] at h5
    refine Nat.le_of_not_lt fun q => ?_
    have q' : (n : Int) < ((ns.length : Nat) : Int) := by omega
    first
      | (rw [decide_eq_true q'] at h5; exact absurd h5 (by decide))
      | (simp at h5; omega)
  cases hwl with
  | cons w1 w2 =>
    cases w2
    cases w1 with
    | list ho hall => exact ⟨_, _, ns, rfl, rfl, ho, ints_of_wellAll ns _ hall, hlen⟩

theorem post_true (l : OpenLaw) (args : List WData) : l.row.toRowW.claim.post args (.bool true) args = true :=
  postW_of (r := l.row.toRowW) (X := (true == true))
    (show WShape.has [] (.bool true) .bool = true by first | rfl | decide | simp [WShape.has, WShape.arms, WShape.armsAll])
    (show (WTm.eq .res (.lit (.bool true))).value [] { args := args, res := some (.bool true), after := args } = some (.bool (true == true)) from w_eq_bool (w_res rfl) w_lit) rfl

/-! ### the attachment: holds_open's last premise (the goal 'hc' behind k_head) from a wpAny of the law's body -/
theorem attach {l : OpenLaw} {n : Nat} {q : Program} {loose : List Str} {XP : (Str → Option Value) → Heap → Prop} {YP : World → Heap → Prop} {d : DefRec} {x : Str}
    (hn : l.most = some n) (hdf : d.params.defaults = [])
    (hbind : ∀ pm cd doc v : Value, bindArgs (docDef d.name d.params d.body d.scope pm cd doc) ⟨[v], []⟩ = pure [(x, v)])
    (hx : d.scope.names.lookup x = some .local ∨ d.scope.names.lookup x = some .cell)
    (hk : d.scope.kind = .function) (hco : d.scope.isCoroutine = false) (hgen : d.scope.isGenerator = false)
    (body : ∀ (w : World) (s₀ s₁ s : Shared) (mg mb : Str → Option Value) (fa : Addr) (o : Obj) (pm cd doc : Value) (a : Addr) (vs : List Value) (ns : List Int),
      Ground q loose [] XP w s₀ mg mb s₁.heap → YP w s₁.heap →
      s₁.heap.get? fa = some o → o.data = .func (docDef d.name d.params d.body d.scope pm cd doc) → s₁.heap.CodeRec cd d.name → mg d.name = some (.ref fa) →
      s₁.heap.get? a = some { cls := .type "list", data := .seq vs.toArray } → IntsAre vs ns → ns.length ≤ n →
      s.gens = #[] → s.os = s₁.os →
      Fr s₁.heap s₁.heap.objs.size s.heap (bindL (envOfC d.name d.scope s₁.heap.objs.size fa cd).kindOf [(x, .ref a)] fun _ => none) →
      Cl s₁.heap.objs.size (cellsFrom (s₁.heap.objs.size + 1) d.scope.names []) s.heap (bindC (envOfC d.name d.scope s₁.heap.objs.size fa cd).kindOf [(x, .ref a)] fun _ => none) →
      wpAny (model l.prog w) (callerA.deeper (envOfC d.name d.scope s₁.heap.objs.size fa cd)) (execs d.body (envOfC d.name d.scope s₁.heap.objs.size fa cd))
        (fun f s' => f = .ret (.bool true) ∧ OldK s₁.heap s'.heap ∧ s'.os = s₁.os ∧ AllBare s'.gens) (fun _ _ => False) s) :
    WalkO q loose XP YP l.row.toRowW d [] (fun f vs => PySem.call f vs) := by
  intro w s₀ s₁ mg mb G Y fa o pm cd doc dV kV ho hd hcd hD hmg hg args vals as hpre hlay hrd hwl hlo
  obtain rfl : dV = .none := Dflts.none hD hdf
  obtain rfl : kV = .none := Dflts.noKw hD
  obtain ⟨a, vs, ns, rfl, rfl, hobj, hints, hlen⟩ := script_of hn hpre hwl
  refine enter_call ?_
  refine call_cells_ret (o := o) (by rw [depth_caller]; decide) ho (fd_plain hd) G.T.nolimit hcd (hbind pm cd doc (.ref a)) (fun y hy => ?_) (fun h₁ tk F X => ?_) hco hgen hk
  · obtain rfl : y = (x, Value.ref a) := List.mem_singleton.mp hy
    rcases hx with e | e
    · exact .inl e
    · exact .inr ⟨e, cellsFrom_some _ _ _ (.inl e)⟩
  · refine wpAny_mono (body w s₀ s₁ { s₁ with heap := h₁, toks := tk } mg mb fa o pm cd doc a vs ns G Y ho (fd_plain hd) hcd hmg hobj hints hlen hg rfl F X) (fun f s' hq => ?_) (fun _ _ hq => hq)
    obtain ⟨rfl, h2, h3, h4⟩ := hq
    exact ⟨.inl ⟨.bool true, .bool true, [], rfl, fun _ => rfl, .bool true, post_true l _, fun _ => ⟨List.Pairwise.nil, fun _ hm => (nomatch hm)⟩⟩, h2, h3, h4⟩

/-- the same from a codeAny of the CALL (for a layer whose function contracts speak of calls) -/
theorem attach_call {l : OpenLaw} {n : Nat} {q : Program} {loose : List Str} {XP : (Str → Option Value) → Heap → Prop} {YP : World → Heap → Prop} {d : DefRec}
    (hn : l.most = some n) (hdf : d.params.defaults = [])
    (call : ∀ (w : World) (s₀ s₁ : Shared) (mg mb : Str → Option Value) (fa : Addr) (o : Obj) (pm cd doc : Value) (a : Addr) (vs : List Value) (ns : List Int),
      Ground q loose [] XP w s₀ mg mb s₁.heap → YP w s₁.heap →
      s₁.heap.get? fa = some o → o.data = .func (docDef d.name d.params d.body d.scope pm cd doc) → s₁.heap.CodeRec cd d.name → mg d.name = some (.ref fa) →
      s₁.heap.get? a = some { cls := .type "list", data := .seq vs.toArray } → IntsAre vs ns → ns.length ≤ n → s₁.gens = #[] →
      codeAny (model l.prog w) callerA (.call (.ref fa) ⟨[.ref a], []⟩) (fun r s' => r = .ok (.ret (.bool true)) ∧ OldK s₁.heap s'.heap ∧ s'.os = s₁.os ∧ AllBare s'.gens) s₁) :
    WalkO q loose XP YP l.row.toRowW d [] (fun f vs => PySem.call f vs) := by
  intro w s₀ s₁ mg mb G Y fa o pm cd doc dV kV ho hd hcd hD hmg hg args vals as hpre hlay hrd hwl hlo
  obtain rfl : dV = .none := Dflts.none hD hdf
  obtain rfl : kV = .none := Dflts.noKw hD
  obtain ⟨a, vs, ns, rfl, rfl, hobj, hints, hlen⟩ := script_of hn hpre hwl
  refine enter_call (codeAny_mono (call w s₀ s₁ mg mb fa o pm cd doc a vs ns G Y ho (fd_plain hd) hcd hmg hobj hints hlen hg) fun r s' hq => ?_)
  obtain ⟨rfl, h2, h3, h4⟩ := hq
  exact ⟨.inl ⟨.bool true, .bool true, [], rfl, fun _ => rfl, .bool true, post_true l _, fun _ => ⟨List.Pairwise.nil, fun _ hm => (nomatch hm)⟩⟩, h2, h3, h4⟩

/-- the same where the top left finished generators (o_head chose holds_openN): nothing may have changed at all and no generator may be left -/
theorem attachN {l : OpenLaw} {n : Nat} {q : Program} {loose : List Str} {XP : (Str → Option Value) → Heap → Prop} {YP : World → Heap → Prop} {d : DefRec} {x : Str}
    (hn : l.most = some n) (hdf : d.params.defaults = [])
    (hbind : ∀ pm cd doc v : Value, bindArgs (docDef d.name d.params d.body d.scope pm cd doc) ⟨[v], []⟩ = pure [(x, v)])
    (hx : d.scope.names.lookup x = some .local ∨ d.scope.names.lookup x = some .cell)
    (hk : d.scope.kind = .function) (hco : d.scope.isCoroutine = false) (hgen : d.scope.isGenerator = false)
    (body : ∀ (w : World) (s₀ s₁ s : Shared) (mg mb : Str → Option Value) (fa : Addr) (o : Obj) (pm cd doc : Value) (a : Addr) (vs : List Value) (ns : List Int),
      Ground q loose [] XP w s₀ mg mb s₁.heap → YP w s₁.heap →
      s₁.heap.get? fa = some o → o.data = .func (docDef d.name d.params d.body d.scope pm cd doc) → s₁.heap.CodeRec cd d.name → mg d.name = some (.ref fa) →
      s₁.heap.get? a = some { cls := .type "list", data := .seq vs.toArray } → IntsAre vs ns → ns.length ≤ n →
      s.gens = #[] → s.os = s₁.os →
      Fr s₁.heap s₁.heap.objs.size s.heap (bindL (envOfC d.name d.scope s₁.heap.objs.size fa cd).kindOf [(x, .ref a)] fun _ => none) →
      Cl s₁.heap.objs.size (cellsFrom (s₁.heap.objs.size + 1) d.scope.names []) s.heap (bindC (envOfC d.name d.scope s₁.heap.objs.size fa cd).kindOf [(x, .ref a)] fun _ => none) →
      wpAny (model l.prog w) (callerA.deeper (envOfC d.name d.scope s₁.heap.objs.size fa cd)) (execs d.body (envOfC d.name d.scope s₁.heap.objs.size fa cd))
        (fun f s' => f = .ret (.bool true) ∧ (∀ b o, s₁.heap.get? b = some o → s'.heap.get? b = some o) ∧ s'.os = s₁.os ∧ s'.gens = #[]) (fun _ _ => False) s) :
    WalkN q loose XP YP l.row.toRowW d [] (fun f vs => PySem.call f vs) := by
  intro w s₀ s₁ mg mb G Y fa o pm cd doc dV kV ho hd hcd hD hmg hg args vals as hpre hlay hrd hwl hlo
  obtain rfl : dV = .none := Dflts.none hD hdf
  obtain rfl : kV = .none := Dflts.noKw hD
  obtain ⟨a, vs, ns, rfl, rfl, hobj, hints, hlen⟩ := script_of hn hpre hwl
  refine enter_callW ?_
  refine call_cells_ret (o := o) (by rw [depth_caller]; decide) ho (fd_plain hd) G.T.nolimit hcd (hbind pm cd doc (.ref a)) (fun y hy => ?_) (fun h₁ tk F X => ?_) hco hgen hk
  · obtain rfl : y = (x, Value.ref a) := List.mem_singleton.mp hy
    rcases hx with e | e
    · exact .inl e
    · exact .inr ⟨e, cellsFrom_some _ _ _ (.inl e)⟩
  · refine wpAny_mono (body w s₀ s₁ { s₁ with heap := h₁, toks := tk } mg mb fa o pm cd doc a vs ns G Y ho (fd_plain hd) hcd hmg hobj hints hlen hg rfl F X) (fun f s' hq => ?_) (fun _ _ hq => hq)
    obtain ⟨rfl, h2, h3, h4⟩ := hq
    exact ⟨.inl ⟨.bool true, .bool true, [], rfl, fun _ => rfl, .bool true, post_true l _, fun _ => ⟨List.Pairwise.nil, fun _ hm => (nomatch hm)⟩⟩, h2, h3, h4⟩

/-! ### rules over ANY heap (no ledger) from facts about the written part K: the library's own take a ledger (News) for what they write -/
section
variable {prog : Program} {w : World} {A : Around} {E : Value → Shared → Prop} {s : Shared} {K : Frag}

/-- a def of the module, or a method (qual 'C.m'), entered: the frame is the next address; cells behind it -/
theorem call_fn {R : Result → Shared → Prop} {name qual : Str} {params : Arguments} {body : List Stmt} {scope : Scope} {dV kV doc pm cdv ct oc : Value} {an od : Option Addr} {osl : Array (Option Value)} {f : Addr} {args : Args} {binds : List (Str × Value)}
    (X : K.In s.heap) (hlim : s.heap.NoLimit) (ho : K.lookup f = some ⟨oc, od, .func (fnOf name qual params body scope dV kV doc pm an cdv ct), osl⟩) (hcd : codeIn K cdv qual = true) (hroom : A.depth < recursionLimit)
    (hbind : BindsTo s (fnOf name qual params body scope dV kV doc pm an cdv ct) args binds)
    (hkind : (binds.all fun y => scope.names.lookup y.1 == some .local || scope.names.lookup y.1 == some .cell) = true)
    (h : ∀ s₁, InCallC s s.heap.objs.size (bindL (envOfC qual scope s.heap.objs.size f cdv).kindOf binds fun _ => none) (cellsFrom (s.heap.objs.size + 1) scope.names [])
        (bindC (envOfC qual scope s.heap.objs.size f cdv).kindOf binds fun _ => none) s₁ →
      wpAny (model prog w) (A.deeper (envOfC qual scope s.heap.objs.size f cdv)) (execs body (envOfC qual scope s.heap.objs.size f cdv))
        (fun fl s' => R (.ok (.ret (match fl with | .ret v => v | _ => .none))) s')
        (fun e s' => wpAny (model prog w) (A.deeper (envOfC qual scope s.heap.objs.size f cdv)) (leaving (envOfC qual scope s.heap.objs.size f cdv) e) (fun _ s'' => R (.error e) s'') (fun e' s'' => R (.error e') s'') s') s₁)
    (hco : scope.isCoroutine = false) (hgen : scope.isGenerator = false) (hk : scope.kind = .function) : codeAny (model prog w) A (.call (.ref f) args) R s := by
  refine codeAny_call_function hroom (X _ _ ho) rfl hco hgen rfl (codeRec_of X hcd) (hbind _ _ _ _ ?_)
  refine wpAny_newFunctionEnv_cells hk (kindsX hkind _) fun env he s₁ x => ?_
  subst he
  exact ⟨hlim.keeps x.toInCall.keep, codeAny_func (h s₁ x)⟩

/-- C(..): dict at size, instance at size + 1, then __init__ -/
theorem make_obj {R : Result → Shared → Prop} {C fI : Addr} {rest : List Value} {kw : List (Str × Value)}
    (X : K.In s.heap) (hm : makesIn K C = true) (hi : findIn K (.ref C) "__init__" = some (some (.ref fI))) (hf : isFn K (.ref fI) = true)
    (h : codeAny (model prog w) (A.under (.builtin "type.__call__" ⟨.ref C :: rest, kw⟩)) (.call (.ref fI) ⟨.ref (s.heap.objs.size + 1) :: rest, kw⟩) (InitBack (s.heap.objs.size + 1) R)
      { s with heap := (s.heap.push emptyDict).push (instObj C s.heap.objs.size) }) : codeAny (model prog w) A (.call (.ref C) ⟨rest, kw⟩) R s := by
  obtain ⟨hh, g, d, t, os⟩ := s
  exact make_core (makes_of X hm) (looks_findIn X hi) (fun self => bind_fn X self (beq_iff_eq.mp hf)) (.inl rfl) h

/-- x.name where the instance's dict holds the name and the class does not -/
theorem get_field {x C : Addr} {ox : Obj} {es : List DictEntry} {n : Nat} {name : Str} {expr : Bool} {v : Value} {Q : Value → Shared → Prop}
    (X : K.In s.heap) (I : PySem.W.InstAt s.heap x ox C (some (dictOf es n))) (hg : plainGet K C name = true) (hh : hasDictIn K C = true) (ha : findIn K (.ref C) name = some none)
    (hl : getL name es = some (some v)) (hv : handedIn v = true) (h : Q v { s with toks := s.toks + 1 }) : wpAny (model prog w) A (getAttr (.ref x) name expr) Q E s :=
  get_value X I (plainGet_of hg).1 (findObj_own hh ha rfl hl) hv h

/-- x.m(..): the method found in the class -/
theorem get_method {x C f : Addr} {ox : Obj} {es : List DictEntry} {n : Nat} {name : Str} {pl : Sem Bool} {Q : Value × List Value → Shared → Prop}
    (X : K.In s.heap) (I : PySem.W.InstAt s.heap x ox C (some (dictOf es n))) (hg : plainGet K C name = true) (hf : findIn K (.ref C) name = some (some (.ref f))) (ht : isFn K (.ref f) = true)
    (hl : getL name es = some none) (h : Q (.ref f, [.ref x]) s) : wpAny (model prog w) A (getMethod (.ref x) name pl) Q E s :=
  method_fn X I (plainGet_of hg).1 (plainGet_of hg).2 hf (beq_iff_eq.mp ht) (by show (lookIn name (dictOf es n)).map _ = _; rw [lookIn_dict, hl]; rfl) h

/-! the whole heap as the ledger: makes every rule that writes through a ledger a rule over any heap -/
def noObjs (h : Heap) : Heap := { h with objs := #[] }
theorem noObjs_get (h : Heap) (b : Addr) : (noObjs h).get? b = none := by
  cases e : (noObjs h).get? b with
  | none => rfl
  | some o => exact absurd (Heap.lt_size e) (Nat.not_lt_zero _)
def ledger (h : Heap) (L d : Addr) : List (Addr × Obj) := (List.range h.objs.size).filterMap fun a => if a = L ∨ a = d then none else (h.get? a).map fun o => (a, o)
theorem mem_ledger {h : Heap} {L d a : Addr} {o : Obj} : (a, o) ∈ ledger h L d ↔ a ≠ L ∧ a ≠ d ∧ h.get? a = some o := by
  unfold ledger
  rw [List.mem_filterMap]
  constructor
  · rintro ⟨b, _, e⟩
    split at e
    · cases e
    · rename_i hb
      obtain ⟨o', ho, e'⟩ := Option.map_eq_some_iff.mp e
      cases e'
      exact ⟨fun q => hb (.inl q), fun q => hb (.inr q), ho⟩
  · rintro ⟨n1, n2, ho⟩
    refine ⟨a, List.mem_range.mpr (Heap.lt_size ho), ?_⟩
    rw [if_neg (show ¬ (a = L ∨ a = d) from fun q => q.elim n1 n2), ho] <;> rfl
theorem news_ledger {h : Heap} {L d : Addr} {od : Obj} (hne : d ≠ L) (ho : h.get? d = some od) : News (noObjs h) L h ([] ++ (d, od) :: ledger h L d) := by
  rintro ⟨a, o⟩ hp
  rcases List.mem_cons.mp hp with e | hp
  · cases e
    exact ⟨ho, hne, noObjs_get _ _⟩
  · obtain ⟨n1, n2, e⟩ := mem_ledger.mp hp
    exact ⟨e, n1, noObjs_get _ _⟩
theorem fr_all {h : Heap} {L : Addr} {m : Str → Option Value} (n : h.Ns L m) : Fr (noObjs h) L h m :=
  ⟨n, fun b o e => (by rw [noObjs_get] at e; cases e), Nat.zero_le _⟩
/-- Upd of the head entry (for append_K, setItem_K ..) -/
theorem upd_ledger {h : Heap} {L d : Addr} {o o' : Obj} : Upd d o o' ((d, o) :: ledger h L d) ((d, o') :: ledger h L d) :=
  .head fun ⟨_, _⟩ hp => (mem_ledger.mp hp).2.1

/-- x.name = v over any heap: L is any namespace of the heap (the frame's, say): its map stays, its object is not told; all else but the dict stays -/
theorem set_field {x C dx L : Addr} {ox : Obj} {m : Str → Option Value} {es es' : List DictEntry} {n n' : Nat} {name : Str} {v : Value} {Q : Unit → Shared → Prop}
    (X : K.In s.heap) (I : PySem.W.InstAt s.heap x ox C (some (dictOf es n))) (hd : ox.dict = some dx) (hL : s.heap.Ns L m) (hne : dx ≠ L)
    (hs : findIn K (.ref C) "__setattr__" = some (some (.builtin "object.__setattr__"))) (hp : plainOver K C = true) (ht : takerIn K C name = some none) (hh : hasDictIn K C = true) (hl : (getL name es).isSome = true)
    (e : (putL name (PyData.keyHash w.params name) (.str name (s.toks + 1)) v es, putN name es n) = (es', n')) (hz : es'.length ≤ 1000)
    (h : ∀ h' : Heap, h'.Ns L m → h'.get? dx = some (dictOf es' n') → (∀ b o, b ≠ dx → b ≠ L → s.heap.get? b = some o → h'.get? b = some o) → Q () { s with heap := h', toks := s.toks + 2 }) :
    wpAny (model prog w) A (setAttr (.ref x) name v) Q E s := by
  obtain ⟨e1, e2⟩ := Prod.mk.inj e
  have hdx : s.heap.get? dx = some (dictOf es n) := by
    have := I.dict
    rw [hd] at this
    exact this
  refine set_plain X I hs (osa_dict (s := { s with toks := s.toks + 1 }) (h₀ := noObjs s.heap) (L := L) (m := m) (od := dictOf es n) (od' := dictOf es' n') (es := es') (n := n') (pre := []) (post := ledger s.heap L dx)
    (fr_all hL) (news_ledger hne hdx) X I hd hp ht hh hl (fun _ q => nomatch q) (fun ⟨_, _⟩ q => (mem_ledger.mp q).2.1) (by rw [putName_dict, e1, e2]) rfl hz fun h' F' N' => ?_)
  exact h h' F'.ns (N'.get (List.Mem.head _)) fun b o n1 n2 ho => N'.get (List.Mem.tail _ (mem_ledger.mpr ⟨n2, n1, ho⟩))
end
end Att

namespace L2
open PySem PySem.Spec PyProof.Rows

theorem vals_ints : ∀ {vs : List Value} {ns : List Int}, IntsAre vs ns → Vals (ns.map V.int) vs
  | _, _, .nil => .nil
  | _, _, .cons n t h => .cons ⟨t, rfl⟩ (vals_ints h)

/-- nothing is tracked but the script, known to the object (or it is an object of the module) -/
def Only (H : Hp) : Prop := ∀ b, H b = none ∨ ∃ o xs, H b = some (.frz o (.lst xs))

/-- THE HEAD: the law's promise, at the heap behind the top. F, the promise of the law's def, may use that base is part of the heap (so K.In base, base.Ns mainGlobals mg stand in Mod) -/
theorem law_call {P : Program} {w : World} {K : PySem.W.Frag} {mg mb : Str → Option Value} {CX : CXT} {k : Nat} {fa a : Addr} {fd : FuncData} {x : Str} {sp : Sp} {s₁ : Shared} {vs : List Value} {ns : List Int}
    (KX : K.In s₁.heap) (hns : s₁.heap.Ns mainGlobals mg) (hb : s₁.heap.Ns builtinsNs mb) (hbb : ∀ x : Str, x ≠ "__name__" → mb x = bootBuiltins x) (hlim : s₁.heap.NoLimit) (hg : s₁.gens = #[])
    (ha : s₁.heap.get? a = some { cls := .type "list", data := .seq vs.toArray }) (hi : IntsAre vs ns) (hl : ns.length ≤ sizeLine) (hr : Room k callerA)
    (F : ∀ base : Heap, K.In base → base.Ns mainGlobals mg → FnOk P w K mg base CX k fa fd [x] sp) (hbind : ∀ (s : Shared) (u : Value), BindsTo s fd ⟨[u], []⟩ [(x, u)])
    (hsp : ∀ H : Hp, Only H → SqL K H a (ns.map V.int) → sp [.ref a] H (fun v _ => v = .bl true) fun _ _ _ => False)
    (hCX : ∀ H e s', CX [] H s₁ (fun _ _ _ => False) e s' → False) :
    codeAny (model P w) callerA (.call (.ref fa) ⟨[.ref a], []⟩) (fun r s' => r = .ok (.ret (.bool true)) ∧ OldK s₁.heap s'.heap ∧ s'.os = s₁.os ∧ AllBare s'.gens) s₁ := by
  have rv := vals_ints hi
  have lenV := hi.length
  -- from an abstract heap in which nothing but the script may be tracked
  have core : ∀ H : Hp, Only H → SqL K H a (ns.map V.int) → HOk P w H s₁.heap → (∀ b, H b ≠ none → b = a) → (H a ≠ none → K.lookup a = none) →
      codeAny (model P w) callerA (.call (.ref fa) ⟨[.ref a], []⟩) (fun r s' => r = .ok (.ret (.bool true)) ∧ OldK s₁.heap s'.heap ∧ s'.os = s₁.os ∧ AllBare s'.gens) s₁ := by
    intro H hO hS hok hA hK
    have base_of : ∀ {b : Addr} {o : Obj}, s₁.heap.get? b = some o → H b = none → (hidT s₁.heap H).get? b = some o := fun e n => hidT_get e n
    have noA : ∀ {b : Addr} {o : Obj} {es : Array DictEntry} {ep : Nat}, s₁.heap.get? b = some o → o.data = .dict es ep → H b = none := fun {b o es ep} e d => by
      cases q : H b with
      | none => rfl
      | some u =>
        have e' : b = a := hA b (by rw [q]; simp)
        subst e'
        rw [ha] at e; cases e
        have d' : Data.seq vs.toArray _ = Data.dict es ep := d
        cases d'
    have nsK : ∀ {b : Addr} {m : Str → Option Value}, s₁.heap.Ns b m → (hidT s₁.heap H).Ns b m := fun {b m} ⟨o, es, ep, e, d, r⟩ => ⟨o, es, ep, base_of e (noA e d), d, r⟩
    have hKb : K.In (hidT s₁.heap H) := fun b o e => base_of (KX b o e) (by
      cases q : H b with
      | none => rfl
      | some u =>
        have e' : b = a := hA b (by rw [q]; simp)
        subst e'
        rw [hK (by rw [q]; simp)] at e; cases e)
    have hM : Mod K mg (hidT s₁.heap H) := ⟨hKb, nsK hns, ⟨mb, nsK hb, hbb⟩, let ⟨mc, h1, h2⟩ := hlim; ⟨mc, nsK h1, h2⟩⟩
    have e0 : Env0 P w K mg (hidT s₁.heap H) callerA [] s₁ H := ⟨rfl, hM, fun b o e => of_hidT e, Nat.le_of_eq (hidT_size _ _), trivial, fun b hb => absurd (show b ∈ ([] : List Addr) from hb) (by simp), hok, .of_eq hg⟩
    refine codeAny_mono ((F _ hKb (nsK hns)).run callerA [] s₁ H ⟨[.ref a], []⟩ [.ref a] [.ref a] _ _ hr e0 (hbind s₁ (.ref a)) (.cons rfl .nil) (hsp H hO hS)) fun r s' h => ?_
    cases r with
    | error e => exact (hCX H e s' h).elim
    | ok fl =>
      cases fl with
      | next => exact False.elim h
      | brk => exact False.elim h
      | cont => exact False.elim h
      | ret u =>
        obtain ⟨v, H', os, bare, un, hok', r', q⟩ := h
        have q' : v = .bl true := q
        subst q'
        obtain rfl : u = Value.bool true := r'
        refine ⟨rfl, OldK.of_keep fun b o e => ?_, os, bare⟩
        cases q : H b with
        | none => exact un.keep b o e q (by intro z; exact absurd (show b ∈ ([] : List Addr) from z) (by simp)) (by simp)
        | some u =>
          rcases hO b with z | ⟨ob, xs, z⟩
          · rw [q] at z; cases z
          · have z2 := un.frzs b ob _ z
            obtain ⟨e1, _⟩ := hok b _ z
            obtain ⟨e2, _⟩ := hok' b _ z2
            rw [e] at e1; cases e1
            exact e2
  cases hk : K.lookup a with
  | some o =>
    -- the script is one of the module's own objects
    have e := KX a o hk
    rw [ha] at e
    cases e
    refine core (fun _ => none) (fun _ => .inl rfl) (.inr ⟨_, vs.toArray, _, hk, rfl, rfl, rfl, by rw [List.size_toArray, lenV]; exact hl, by simpa using rv⟩) (fun b u z => by have z' : (none : Option HO) = some u := z; cases z') (fun b z => absurd rfl z) fun z => absurd rfl z
  | none =>
    refine core (fun b => if b = a then some (.frz { cls := .type "list", data := .seq vs.toArray } (.lst (ns.map V.int))) else none) (fun b => ?_) (.inl (.inr ⟨{ cls := .type "list", data := .seq vs.toArray }, if_pos rfl⟩)) (fun b u z => ?_) (fun b z => ?_) fun _ => hk
    · by_cases hb : b = a
      · exact .inr ⟨_, _, if_pos hb⟩
      · exact .inl (if_neg hb)
    · by_cases hb : b = a
      · have z' := (if_pos hb).symm.trans z
        cases z'
        subst hb
        exact ⟨ha, by rw [List.length_map]; exact hl, vs, _, rv, ha⟩
      · have z' := (if_neg hb).symm.trans z
        cases z'
    · by_cases hb : b = a
      · exact hb
      · exact absurd (if_neg hb) z
end L2

namespace L2
open PySem PySem.Spec PyProof.Rows

abbrev KOf {K : PySem.W.Frag} {h : Heap} (_ : K.In h) : PySem.W.Frag := K

/-- the goal that k_head leaves (case hc), from the law's promise. F gives the function object fd (K's own) once, then the promise over every base -/
theorem walk_of {l : PySem.W.OpenLaw} {n k : Nat} {q : Program} {loose : List Str} {XP : (Str → Option Value) → Heap → Prop} {YP : World → Heap → Prop} {d : DefRec} {K : Params → PySem.W.Frag} {CX : World → CXT} {sp : World → Sp} {x : Str}
    (hn : l.most = some n) (hn2 : n ≤ sizeLine) (hdf : d.params.defaults = []) (hr : Room k callerA)
    (hY : ∀ (w : World) (h : Heap), YP w h → (K w.params).In h)
    (F : ∀ (w : World) (mg : Str → Option Value) (fa : Addr) (h : Heap), (K w.params).In h → h.Ns mainGlobals mg → mg d.name = some (.ref fa) →
      ∃ fd : FuncData, (∀ (s : Shared) (u : Value), BindsTo s fd ⟨[u], []⟩ [(x, u)]) ∧
        ∀ base : Heap, (K w.params).In base → base.Ns mainGlobals mg → FnOk l.prog w (K w.params) mg base (CX w) k fa fd [x] (sp w))
    (hsp : ∀ (w : World) (H : Hp) (a : Addr) (ns : List Int), ns.length ≤ n → Only H → SqL (K w.params) H a (ns.map V.int) → sp w [.ref a] H (fun v _ => v = .bl true) fun _ _ _ => False)
    (hCX : ∀ (w : World) (H : Hp) (s : Shared) (e : Value) (s' : Shared), CX w [] H s (fun _ _ _ => False) e s' → False) :
    PySem.W.WalkO q loose XP YP l.row.toRowW d [] (fun f vs => PySem.call f vs) := by
  refine Att.attach_call hn hdf fun w s₀ s₁ mg mb fa o pm cd doc a vs ns G Y ho hd hcd hmg hobj hints hlen hg => ?_
  have KX := hY w _ Y
  obtain ⟨fd, hb, hF⟩ := F w mg fa _ KX G.T.g hmg
  exact law_call KX G.T.g G.T.b G.T.builtins G.T.nolimit hg hobj hints (Nat.le_trans hlen hn2) hr hF hb (fun H hO hS => hsp w H a ns hlen hO hS) fun H e s' => hCX w H s₁ e s'
/-- the same where the promise hangs on the written part alone: (sp := My.sp_law), no hole under a binder -/
theorem walk_ofK {l : PySem.W.OpenLaw} {n k : Nat} {q : Program} {loose : List Str} {XP : (Str → Option Value) → Heap → Prop} {YP : World → Heap → Prop} {d : DefRec} {K : Params → PySem.W.Frag} {CX : CXT} {sp : PySem.W.Frag → Sp} {x : Str}
    (hn : l.most = some n) (hn2 : n ≤ sizeLine) (hdf : d.params.defaults = []) (hr : Room k callerA)
    (hY : ∀ (w : World) (h : Heap), YP w h → (K w.params).In h)
    (F : ∀ (w : World) (mg : Str → Option Value) (fa : Addr) (h : Heap), (K w.params).In h → h.Ns mainGlobals mg → mg d.name = some (.ref fa) →
      ∃ fd : FuncData, (∀ (s : Shared) (u : Value), BindsTo s fd ⟨[u], []⟩ [(x, u)]) ∧
        ∀ base : Heap, (K w.params).In base → base.Ns mainGlobals mg → FnOk l.prog w (K w.params) mg base CX k fa fd [x] (sp (K w.params)))
    (hsp : ∀ (K : PySem.W.Frag) (H : Hp) (a : Addr) (ns : List Int), ns.length ≤ n → Only H → SqL K H a (ns.map V.int) → sp K [.ref a] H (fun v _ => v = .bl true) fun _ _ _ => False)
    (hCX : ∀ (H : Hp) (s : Shared) (e : Value) (s' : Shared), CX [] H s (fun _ _ _ => False) e s' → False) :
    PySem.W.WalkO q loose XP YP l.row.toRowW d [] (fun f vs => PySem.call f vs) :=
  walk_of (K := K) (CX := fun _ => CX) (sp := fun w => sp (K w.params)) hn hn2 hdf hr hY F (fun w H a ns h1 h2 h3 => hsp (K w.params) H a ns h1 h2 h3) fun _ H s e s' => hCX H s e s'
end L2

/- THE LAST THEOREM (shape; LID, My.* are yours):
   My.Adr: a structure of the addresses that your layer names (classes, functions); My.Txt K t: a structure (Prop) of the equations over K;
   My.txt_mk : {K} {implicit addresses ..} (e1 : nsIn K mainGlobals "law" = some (some (.ref f))) (e2 : K.lookup f = some ⟨oc, od, .func (fnOf "law" "law" params body scope dV kV doc pm an cdv ct), sl⟩) (e3 : codeIn K cdv "law" = true) .. : ∃ t, My.Txt K t

set_option maxRecDepth 100000 in
set_option maxHeartbeats 0 in
theorem PySem.Challenge.cw_LID_holds : PySem.Challenge.rw_LID.Holds := by
  w_on; o_law; k_head; (case hw => w_witness2)
  k_fill
  refine L2.walk_of (l := PySem.Challenge.rw_LID) (n := 63) (k := 40) (x := "script") (CX := fun w => ..) (sp := fun _ => My.sp_law) rfl (by decide) rfl ⟨rfl, by decide, by decide⟩ (fun w h Y => PySem.W.kIn_of Y) ?F ?S ?C
  case F =>
    intro w mg fa h KX G hmg
    have T : ∃ t, My.Txt (L2.KOf KX) t := by
      dsimp only [L2.KOf]                          -- K must stand as «<heap const> w.params» for k_is
      refine' My.txt_mk ?e1 ?e2 ?e3 ..
      (case e1 => PySem.W.k_is)                    -- in the order: a name -> its address -> its object -> its parts
      (case e2 => PySem.W.k_is)
      ..
    obtain ⟨t, T⟩ := T
    have e0 := hmg.symm.trans (PySem.W.mg_of KX G T.law)
    cases e0                                       -- fa is the law's own address
    exact ⟨_, fun s u => .of_eq rfl, fun base kb nb => My.law_fn T kb nb⟩     -- if «.of_eq rfl» comes too early: refine' ⟨_, ?b, fun base kb nb => My.law_fn T kb nb⟩; exact fun s u => .of_eq rfl
  case S => exact fun w H a ns hl hO hS => ..
  case C => exact ..
(the tactic k_is has no namespace: write k_is) -/

/-! SHORT WORDS over the layer: a def of the text, its body, what a loop and a test want. -/
namespace L2
open PySem PySem.Spec PyProof.Rows

/-! ### the text by places -/
/-- the j-th statement of a class's body -/
def inClass (s : Stmt) (j : Nat) : Stmt := match s with
  | .ClassDef _ _ _ body _ _ _ _ _ _ _ => body.getD j (.Pass ⟨0, 0, 0, 0⟩)
  | _ => .Pass ⟨0, 0, 0, 0⟩
def defArgs (s : Stmt) : Arguments := match s with
  | .FunctionDef _ a _ _ _ _ _ _ _ _ => a
  | _ => { posonlyargs := [], args := [], vararg := none, kwonlyargs := [], kw_defaults := [], kwarg := none, defaults := [] }
def defBody (s : Stmt) : List Stmt := match s with
  | .FunctionDef _ _ b _ _ _ _ _ _ _ => b
  | _ => []
def defScope (s : Stmt) : Scope := match s with
  | .FunctionDef _ _ _ _ _ _ sc _ _ _ => sc
  | _ => { kind := .function, names := [], isGenerator := false, isCoroutine := false }

/-! ### no exception leaves a def -/
abbrev CX0 : CXT := fun _ _ _ _ _ _ => False
abbrev E0 : XK := fun _ _ _ => False
theorem pass0 {X : Cx} : Passes CX0 X E0 := fun _ _ _ _ _ _ _ h => h.elim

/-! ### a def (or method) of the text as it stands behind the top -/
structure Fun (K : PySem.W.Frag) (x qual : Str) (st : Stmt) (f : Addr) (fd : FuncData) : Prop where
  ex : ∃ (oc : Value) (od : Option Addr) (kV doc pm : Value) (an : Option Addr) (cdv ct : Value) (osl : Array (Option Value)),
    fd = PySem.W.fnOf x qual (defArgs st) (defBody st) (defScope st) .none kV doc pm an cdv ct ∧ K.lookup f = some ⟨oc, od, .func fd, osl⟩ ∧ PySem.W.codeIn K cdv qual = true
  kp : PySem.W.keepIn K (.ref f) = true
section
variable {P : Program} {w : World} {K : PySem.W.Frag} {mg : Str → Option Value} {base : Heap}
/-- THE RULE for a def: its body as a term of rules, and the reading of that term -/
theorem Fun.ok {x qual : Str} {st : Stmt} {f : Addr} {fd : FuncData} {N ps : List Str} {k : Nat} {sp : Sp} (F : Fun K x qual st f fd) (S : FnScope N ps (defScope st)) (len : ∀ vs H Q E, sp vs H Q E → vs.length = ps.length)
    (hbody : ∀ (cdv : Value) (A : Around) (outer : List Env) (s : Shared) (H : Hp) (vs : List V) (Q : VK) (E : XK), Room k (A.deeper (envOfC qual (defScope st) s.heap.objs.size f cdv)) → sp vs H Q E →
      ∃ t, PSs (cxOf CX0 P w K mg base N qual (defScope st) f cdv A outer s H E).nox (defBody st) t ∧ t { nx := fun _ H' => Q .non H', rt := Q } (start N vs) H) : FnOk P w K mg base CX0 (k + 1) f fd ps sp := by
  obtain ⟨oc, od, kV, doc, pm, an, cdv, ct, osl, rfl, lk, hcd⟩ := F.ex
  refine fn_of lk hcd S len fun A outer s H vs Q E hr hsp => ?_
  obtain ⟨t, h, q⟩ := hbody cdv A outer s H vs Q E hr hsp
  exact ⟨t, h.nox, q⟩
/-- how its arguments bind (no defaults): h is «fun _ _ _ _ _ _ us hl => match us, hl with | [_, _], _ => rfl», one _ a parameter -/
theorem Fun.binds {x qual : Str} {st : Stmt} {f : Addr} {fd : FuncData} {ps : List Str} (F : Fun K x qual st f fd)
    (h : ∀ (kV doc pm : Value) (an : Option Addr) (cdv ct : Value) (us : List Value), us.length = ps.length → bindArgs (PySem.W.fnOf x qual (defArgs st) (defBody st) (defScope st) .none kV doc pm an cdv ct) ⟨us, []⟩ = pure (ps.zip us)) : Binds K fd ps [] := by
  obtain ⟨oc, od, kV, doc, pm, an, cdv, ct, osl, rfl, lk, hcd⟩ := F.ex
  exact .all (h kV doc pm an cdv ct)
theorem fun_mk {x qual : Str} {st : Stmt} {f : Addr} {oc : Value} {od an : Option Addr} {osl : Array (Option Value)} {kV doc pm cdv ct : Value} (l : K.lookup f = some ⟨oc, od, .func (PySem.W.fnOf x qual (defArgs st) (defBody st) (defScope st) .none kV doc pm an cdv ct), osl⟩)
    (c : PySem.W.codeIn K cdv qual = true) (k : PySem.W.keepIn K (.ref f) = true) : Fun K x qual st f (PySem.W.fnOf x qual (defArgs st) (defBody st) (defScope st) .none kV doc pm an cdv ct) := ⟨⟨oc, od, kV, doc, pm, an, cdv, ct, osl, rfl, l, c⟩, k⟩
end
theorem hu_of {A : Around} {k : Nat} (hr : Room k A) : A.units + 1 < cLine := Nat.lt_of_le_of_lt (Nat.add_le_add_left (by decide : 1 ≤ 64) _) hr.units
theorem small1000 {n : Nat} (h : n ≤ 1000) : n < sizeLine := Nat.lt_of_le_of_lt h (by decide)

/-! ### expressions in short: the name that stands in the i-th slot -/
section
variable {X : Cx}
theorem pv (i : Nat) {x : Str} {pos : Pos} (hN : X.N[i]? = some x := by rfl) (hv : Vis X.env.scope x := by first | exact Or.inl rfl | exact Or.inr (Or.inl rfl) | exact Or.inr (Or.inr rfl)) (hd : (x == ("__debug__" : Str)) = false := by decide)
    (hcd : (x == ("__classdict__" : Str)) = false := by decide) : PE X (.Name x pos) (tVar i) := pe_var hN hv hd hcd
end

/-! ### tests -/
theorem iteF {A B : Prop} (h : B) : if false = true then A else B := by
  rw [if_neg Bool.false_ne_true]
  exact h
theorem iteT {A B : Prop} (h : A) : if true = true then A else B := by
  rw [if_pos rfl]
  exact h
theorem ite2 {c A B : Prop} [Decidable c] (h1 : c → A) (h2 : ¬ c → B) : if c then A else B := by
  by_cases h : c
  · rw [if_pos h]
    exact h1 h
  · rw [if_neg h]
    exact h2 h
theorem iteNS {c A B : Prop} [Decidable c] (hc : c) (h : B) : if (!decide c) = true then A else B := by
  rw [decide_eq_true hc]
  exact iteF h

/-! ### heaps -/
/-- all that was tracked is as it was -/
def Same (H H' : Hp) : Prop := ∀ b o, H b = some o → H' b = some o
theorem Same.refl (H : Hp) : Same H H := fun _ _ h => h
theorem Same.trans {H H1 H2 : Hp} (a : Same H H1) (b : Same H1 H2) : Same H H2 := fun c o h => b c o (a c o h)
theorem Same.free {H H' : Hp} (e : Same H H') {l : Addr} (h : H' l = Option.none) : H l = Option.none := by
  cases q : H l with
  | none => rfl
  | some o =>
    rw [e l o q] at h
    cases h
theorem Same.seq {K : PySem.W.Frag} {H H' : Hp} {a : Addr} {xs : List V} (e : Same H H') (h : SqL K H a xs) : SqL K H' a xs := by
  rcases h with (h | ⟨o, h⟩) | h
  · exact .inl (.inl (e _ _ h))
  · exact .inl (.inr ⟨o, e _ _ h⟩)
  · exact .inr h

end L2

set_option Elab.async false
set_option linter.all false
set_option maxRecDepth 100000
namespace L2
open PySem PySem.Spec PyProof.Rows

/-! ### lists of pairs as tables -/
section
variable {κ : Type} [DecidableEq κ]
def valV (kvs : List (κ × V)) (k : κ) : Option V := (kvs.find? fun kv => decide (kv.1 = k)).map (·.2)
/-- in its place, or at the end -/
def putK (kvs : List (κ × V)) (k : κ) (v : V) : List (κ × V) :=
  if (kvs.any fun kv => decide (kv.1 = k)) = true then kvs.map (fun kv => if kv.1 = k then (kv.1, v) else kv) else kvs ++ [(k, v)]
def dropK (kvs : List (κ × V)) (k : κ) : List (κ × V) := kvs.filter fun kv => decide (kv.1 ≠ k)

theorem valV_nil {k : κ} : valV ([] : List (κ × V)) k = none := rfl
theorem valV_pos {p : κ × V} {r : List (κ × V)} {k : κ} (e : p.1 = k) : valV (p :: r) k = some p.2 := by simp [valV, List.find?_cons, e]
theorem valV_neg {p : κ × V} {r : List (κ × V)} {k : κ} (e : ¬ p.1 = k) : valV (p :: r) k = valV r k := by simp [valV, List.find?_cons, e]
theorem valV_any (k : κ) : ∀ kvs : List (κ × V), (kvs.any fun kv => decide (kv.1 = k)) = (valV kvs k).isSome
  | [] => rfl
  | p :: r => by
    rw [List.any_cons]
    by_cases e : p.1 = k
    · simp only [valV_pos e, decide_eq_true e, Bool.true_or, Option.isSome_some]
    · rw [valV_neg e, decide_eq_false e, Bool.false_or]; exact valV_any k r
theorem valV_map (k j : κ) (y : V) : ∀ kvs : List (κ × V), valV (kvs.map fun kv => if kv.1 = k then (kv.1, y) else kv) j = (valV kvs j).map fun x => if j = k then y else x
  | [] => rfl
  | p :: r => by
    have ih := valV_map k j y r
    rw [List.map_cons]
    by_cases h : p.1 = k
    · rw [if_pos h]
      by_cases e : p.1 = j
      · rw [valV_pos (p := (p.1, y)) e, valV_pos e, Option.map_some, if_pos (e.symm.trans h)]
      · rw [valV_neg (p := (p.1, y)) e, valV_neg e, ih]
    · rw [if_neg h]
      by_cases e : p.1 = j
      · rw [valV_pos (p := p) e, valV_pos e, Option.map_some, if_neg (fun z => h (e.trans z))]
      · rw [valV_neg (p := p) e, valV_neg e, ih]
theorem valV_snoc (k j : κ) (y : V) : ∀ kvs : List (κ × V), valV kvs k = none → valV (kvs ++ [(k, y)]) j = if j = k then some y else valV kvs j
  | [], _ => by
    by_cases e : k = j
    · rw [if_pos e.symm]; exact valV_pos (p := (k, y)) e
    · rw [if_neg (fun z => e z.symm)]; exact valV_neg (p := (k, y)) e
  | p :: r, hn => by
    rw [List.cons_append]
    have hk : ¬ p.1 = k := fun z => by rw [valV_pos z] at hn; cases hn
    rw [valV_neg hk] at hn
    have ih := valV_snoc k j y r hn
    by_cases e : p.1 = j
    · rw [valV_pos e, valV_pos e, if_neg (fun z => hk (e.trans z))]
    · rw [valV_neg e, valV_neg e, ih]
theorem valV_put (kvs : List (κ × V)) (k j : κ) (y : V) : valV (putK kvs k y) j = if j = k then some y else valV kvs j := by
  unfold putK
  by_cases a : (kvs.any fun kv => decide (kv.1 = k)) = true
  · rw [if_pos a, valV_map]
    rw [valV_any] at a
    by_cases e : j = k
    · obtain ⟨x, hx⟩ := Option.isSome_iff_exists.mp a
      rw [if_pos e, e, hx, Option.map_some, if_pos rfl]
    · rw [if_neg e]
      cases valV kvs j with
      | none => rfl
      | some x => rw [Option.map_some, if_neg e]
  · rw [if_neg a]
    refine valV_snoc k j y kvs ?_
    rw [valV_any] at a
    cases q : valV kvs k with
    | none => rfl
    | some x => rw [q] at a; exact (a rfl).elim
theorem length_putK (kvs : List (κ × V)) (k : κ) (v : V) : (putK kvs k v).length ≤ kvs.length + 1 := by
  unfold putK
  split
  · rw [List.length_map]; omega
  · rw [List.length_append, List.length_cons, List.length_nil]; omega
theorem putK_new {kvs : List (κ × V)} {k : κ} (v : V) (h : valV kvs k = none) : putK kvs k v = kvs ++ [(k, v)] := by
  unfold putK
  rw [valV_any, h]
  exact if_neg (by decide)

theorem RelO.isSome_eq {o : Option V} {u : Option Value} (r : RelO o u) : o.isSome = u.isSome := by
  cases o with
  | none => cases u with
    | none => rfl
    | some _ => exact (show False from r).elim
  | some _ => cases u with
    | none => exact (show False from r).elim
    | some _ => rfl
theorem RelO.getD {o : Option V} {u : Option Value} {d : V} {d' : Value} (r : RelO o u) (rd : RelV d d') : RelV (o.getD d) (u.getD d') := by
  cases o with
  | none => cases u with
    | none => exact rd
    | some _ => exact (show False from r).elim
  | some _ => cases u with
    | none => exact (show False from r).elim
    | some _ => exact r

/-- raw tables of the same keys -/
theorem KV.val {kvs : List (κ × V)} {vs : List (κ × Value)} (r : KV kvs vs) (k : κ) : RelO (valV kvs k) (valueAt vs k) := by
  unfold KV at r
  induction r with
  | nil => exact True.intro
  | @cons p q ps qs h t ih =>
    obtain ⟨h1, h2⟩ := h
    by_cases e : p.1 = k
    · have e' : q.1 = k := h1.symm.trans e
      have b : valueAt (q :: qs) k = some q.2 := by simp [valueAt, List.find?_cons, e']
      rw [valV_pos e, b]; exact h2
    · have e' : ¬ q.1 = k := fun z => e (h1.trans z)
      have b : valueAt (q :: qs) k = valueAt qs k := by simp [valueAt, List.find?_cons, e']
      rw [valV_neg e, b]; exact ih
theorem KV.any {kvs : List (κ × V)} {vs : List (κ × Value)} (r : KV kvs vs) (k : κ) : (kvs.any fun kv => decide (kv.1 = k)) = vs.any fun kv => decide (kv.1 = k) := by
  unfold KV at r
  induction r with
  | nil => rfl
  | cons h t ih => rw [List.any_cons, List.any_cons, ih, h.1]
theorem KV.repl {kvs : List (κ × V)} {vs : List (κ × Value)} (r : KV kvs vs) (k : κ) {y : V} {u : Value} (ry : RelV y u) :
    KV (kvs.map fun kv => if kv.1 = k then (kv.1, y) else kv) (vs.map fun kv => if kv.1 = k then (kv.1, u) else kv) := by
  unfold KV at r ⊢
  induction r with
  | nil => exact .nil
  | @cons p q ps qs h t ih =>
    rw [List.map_cons, List.map_cons]
    refine .cons ?_ ih
    obtain ⟨h1, h2⟩ := h
    by_cases e : p.1 = k
    · rw [if_pos e, if_pos (h1.symm.trans e)]; exact ⟨h1, ry⟩
    · rw [if_neg e, if_neg (fun z => e (h1.trans z))]; exact ⟨h1, h2⟩
theorem KV.put {kvs : List (κ × V)} {vs : List (κ × Value)} (r : KV kvs vs) (k : κ) {y : V} {u : Value} (ry : RelV y u) : KV (putK kvs k y) (stored vs k u) := by
  unfold putK stored
  rw [r.any k]
  by_cases e : (vs.any fun kv => decide (kv.1 = k)) = true
  · rw [if_pos e, if_pos e]; exact r.repl k ry
  · rw [if_neg e, if_neg e]; exact Paired.snoc r ⟨rfl, ry⟩
theorem KV.drop {kvs : List (κ × V)} {vs : List (κ × Value)} (r : KV kvs vs) (k : κ) : KV (dropK kvs k) (without vs k) := by
  unfold KV at r ⊢
  unfold dropK without
  induction r with
  | nil => exact .nil
  | @cons p q ps qs h t ih =>
    obtain ⟨h1, h2⟩ := h
    rw [List.filter_cons, List.filter_cons]
    by_cases e : p.1 = k
    · have a : ¬ decide (p.1 ≠ k) = true := by simp [e]
      have b : ¬ decide (q.1 ≠ k) = true := by simp [h1.symm.trans e]
      rw [if_neg a, if_neg b]; exact ih
    · have e' : ¬ q.1 = k := fun z => e (h1.trans z)
      have a : decide (p.1 ≠ k) = true := by simp [e]
      have b : decide (q.1 ≠ k) = true := by simp [e']
      rw [if_pos a, if_pos b]; exact .cons ⟨h1, h2⟩ ih
theorem KV.keys {kvs : List (κ × V)} {vs : List (κ × Value)} (r : KV kvs vs) : kvs.map (·.1) = vs.map (·.1) := by
  unfold KV at r
  induction r with
  | nil => rfl
  | cons h t ih => rw [List.map_cons, List.map_cons, ih, h.1]
theorem KV.length {kvs : List (κ × V)} {vs : List (κ × Value)} (r : KV kvs vs) : kvs.length = vs.length := Paired.length r
theorem dropK_le (kvs : List (κ × V)) (k : κ) : (dropK kvs k).length ≤ kvs.length := List.length_filter_le _ _
end


/-! ### a tracked dict, its keys ints and texts or tuples of these -/
theorem kV_is {P : Program} {w : World} {k : Key} {u : Value} (r : RelV (kV k) u) : (mixKind P w).is k u = true := by
  cases k with
  | inl i => obtain ⟨t, e⟩ := (show ∃ t, u = Value.int i t from r); subst e; exact mixKind_int P w i t
  | inr x => obtain ⟨t, e⟩ := (show ∃ t, u = Value.str x t from r); subst e; exact mixKind_str P w x t
theorem kV_inj {a b : Key} (e : kV a = kV b) : a = b := by
  cases a with
  | inl i => cases b with
    | inl j => have e' : V.int i = V.int j := e; injection e' with e'; rw [e']
    | inr y => exact nomatch (show V.int i = V.str y from e)
  | inr x => cases b with
    | inl j => exact nomatch (show V.str x = V.int j from e)
    | inr y => have e' : V.str x = V.str y := e; injection e' with e'; rw [e']
theorem kVs_inj : ∀ {a b : List Key}, a.map kV = b.map kV → a = b
  | [], [], _ => rfl
  | [], _ :: _, e => by simp at e
  | _ :: _, [], e => by simp at e
  | x :: xs, y :: ys, e => by
    rw [List.map_cons, List.map_cons] at e
    injection e with e1 e2
    rw [kV_inj e1, kVs_inj e2]
theorem items_are {P : Program} {w : World} : ∀ {ks : List Key} {us : List Value}, Vals (ks.map kV) us → ItemsAre (mixKind P w) ks us
  | [], _, r => by rw [List.map_nil] at r; cases r; exact .nil
  | k :: ks, _, r => by
    rw [List.map_cons] at r
    cases r with
    | cons h t => exact .cons (kV_is h) (items_are t)

/-- raw entries of a dict with tuple keys -/
abbrev KT (H : Hp) : List (List Key × V) → List (List Key × Addr × Value) → Prop := Paired fun p q => p.1 = q.1 ∧ H q.2.1 = some (.tup (p.1.map kV)) ∧ RelV p.2 q.2.2
theorem KT.val {H : Hp} {kvs : List (List Key × V)} {xs : List (List Key × Addr × Value)} (r : KT H kvs xs) (k : List Key) : RelO (valV kvs k) ((atKey xs k).map (·.2)) := by
  induction r with
  | nil => exact True.intro
  | @cons p q ps qs h t ih =>
    obtain ⟨h1, _, h2⟩ := h
    by_cases e : p.1 = k
    · have e' : q.1 = k := h1.symm.trans e
      have b : atKey (q :: qs) k = some q.2 := by simp [atKey, List.find?_cons, e']
      rw [valV_pos e, b]; exact h2
    · have e' : ¬ q.1 = k := fun z => e (h1.trans z)
      have b : atKey (q :: qs) k = atKey qs k := by simp [atKey, List.find?_cons, e']
      rw [valV_neg e, b]; exact ih
theorem KT.repl {H : Hp} {kvs : List (List Key × V)} {xs : List (List Key × Addr × Value)} (r : KT H kvs xs) (k : List Key) {y : V} {u : Value} (ry : RelV y u) :
    KT H (kvs.map fun kv => if kv.1 = k then (kv.1, y) else kv) (xs.map (putAt k u)) := by
  induction r with
  | nil => exact .nil
  | @cons p q ps qs h t ih =>
    rw [List.map_cons, List.map_cons]
    refine .cons ?_ ih
    obtain ⟨h1, h2, h3⟩ := h
    unfold putAt
    by_cases e : p.1 = k
    · rw [if_pos e, if_pos (h1.symm.trans e)]; exact ⟨h1, h2, ry⟩
    · rw [if_neg e, if_neg (fun z => e (h1.trans z))]; exact ⟨h1, h2, h3⟩
theorem KT.put {H : Hp} {kvs : List (List Key × V)} {xs : List (List Key × Addr × Value)} (r : KT H kvs xs) (k : List Key) {b : Addr} {y : V} {u : Value} (hb : H b = some (.tup (k.map kV))) (ry : RelV y u) :
    KT H (putK kvs k y) (storedH xs k b u) := by
  have e : (kvs.any fun kv => decide (kv.1 = k)) = (atKey xs k).isSome := by
    rw [valV_any, (r.val k).isSome_eq, Option.isSome_map]
  unfold putK storedH
  rw [e]
  by_cases q : (atKey xs k).isSome = true
  · rw [if_pos q, if_pos q]; exact r.repl k ry
  · rw [if_neg q, if_neg q]; exact Paired.snoc r ⟨rfl, hb, ry⟩
theorem KT.keeps {H H' : Hp} {kvs : List (List Key × V)} {xs : List (List Key × Addr × Value)} (r : KT H kvs xs) (ht : ∀ b ys, H b = some (.tup ys) → H' b = some (.tup ys)) : KT H' kvs xs :=
  Paired.mapP r fun _ _ z => ⟨z.1, ht _ _ z.2.1, z.2.2⟩

section
variable {P : Program} {w : World} {H : Hp} {h : Heap} {a : Addr}
theorem rd_of {u : HO} (ok : HOk P w H h) (e : Rd H a u) : ObjOk P w H h a u := e.ok ok
theorem dk_rd {kvs : List (Key × V)} (ok : HOk P w H h) (e : Rd H a (.dK kvs)) : kvs.length ≤ sizeLine ∧ (a == sysModules) = false ∧ ∃ vs, KV kvs vs ∧ h.DictOf (mixKind P w) a vs :=
  show ObjOk P w H h a (.dK kvs) from rd_of ok e
theorem dk_of {kvs : List (Key × V)} (ok : HOk P w H h) (e : H a = some (.dK kvs)) : kvs.length ≤ sizeLine ∧ (a == sysModules) = false ∧ ∃ vs, KV kvs vs ∧ h.DictOf (mixKind P w) a vs := dk_rd ok (.inl e)
/-- a tracked tuple of ints and texts is a key -/
theorem key_of {ks : List Key} (ok : HOk P w H h) (e : H a = some (.tup (ks.map kV))) : (tupleKind (mixKind P w)).is h ks a := by
  obtain ⟨_, its, r, o, h1, h2, n, h3⟩ := (show ObjOk P w H h a (.tup (ks.map kV)) from ok a _ e)
  exact ⟨o, its.toArray, n, h1, h2, h3, by simpa using items_are r⟩
theorem dt_rd {kvs : List (List Key × V)} (ok : HOk P w H h) (e : Rd H a (.dT kvs)) : kvs.length ≤ sizeLine ∧ (a == sysModules) = false ∧
    ∃ xs, KT H kvs xs ∧ h.DictOfH (tupleKind (mixKind P w)) a xs := by
  obtain ⟨z, y, xs, r, o, es, ep, h1, h2, h3, h4, h5⟩ := (show ObjOk P w H h a (.dT kvs) from rd_of ok e)
  refine ⟨z, y, xs, r, o, es, ep, h1, h2, h3, h4, fun x hx => ?_, h5⟩
  have all : ∀ {l : List (List Key × V)} {m : List (List Key × Addr × Value)}, KT H l m → ∀ x ∈ m, (tupleKind (mixKind P w)).is h x.1 x.2.1 := by
    intro l m q
    induction q with
    | nil => intro x hx; exact nomatch hx
    | @cons p q ps qs hq t ih =>
      intro x hx
      rcases List.mem_cons.mp hx with e | hx
      · subst e
        exact key_of ok (by rw [← hq.1]; exact hq.2.1)
      · exact ih x hx
  exact all r x hx
theorem dt_of {kvs : List (List Key × V)} (ok : HOk P w H h) (e : H a = some (.dT kvs)) : kvs.length ≤ sizeLine ∧ (a == sysModules) = false ∧
    ∃ xs, KT H kvs xs ∧ h.DictOfH (tupleKind (mixKind P w)) a xs := dt_rd ok (.inl e)
end

/-- what the dict at a holds at the key y -/
def DGet (H : Hp) (a : Addr) (y : V) (r : Option V) : Prop :=
  (∃ kvs k, Rd H a (.dK kvs) ∧ y = kV k ∧ r = valV kvs k) ∨ ∃ kvs k b, Rd H a (.dT kvs) ∧ y = .ref b ∧ H b = some (.tup (k.map kV)) ∧ r = valV kvs k
/-- the heap behind a[y] = v -/
def DPut (H : Hp) (a : Addr) (y v : V) (H' : Hp) : Prop :=
  (∃ kvs k, H a = some (.dK kvs) ∧ y = kV k ∧ kvs.length < sizeLine ∧ H' = upd H a (.dK (putK kvs k v))) ∨
  ∃ kvs k b, H a = some (.dT kvs) ∧ y = .ref b ∧ H b = some (.tup (k.map kV)) ∧ kvs.length < sizeLine ∧ H' = upd H a (.dT (putK kvs k v))
theorem DGet.k {H : Hp} {a : Addr} {kvs : List (Key × V)} {k : Key} (e : H a = some (.dK kvs)) : DGet H a (kV k) (valV kvs k) := .inl ⟨kvs, k, .inl e, rfl, rfl⟩
theorem DGet.t {H : Hp} {a b : Addr} {kvs : List (List Key × V)} {k : List Key} (e : H a = some (.dT kvs)) (eb : H b = some (.tup (k.map kV))) : DGet H a (.ref b) (valV kvs k) := .inr ⟨kvs, k, b, .inl e, rfl, eb, rfl⟩
theorem DPut.k {H : Hp} {a : Addr} {kvs : List (Key × V)} {k : Key} {v : V} (e : H a = some (.dK kvs)) (hl : kvs.length < sizeLine) : DPut H a (kV k) v (upd H a (.dK (putK kvs k v))) := .inl ⟨kvs, k, e, rfl, hl, rfl⟩
theorem DPut.t {H : Hp} {a b : Addr} {kvs : List (List Key × V)} {k : List Key} {v : V} (e : H a = some (.dT kvs)) (eb : H b = some (.tup (k.map kV))) (hl : kvs.length < sizeLine) :
    DPut H a (.ref b) v (upd H a (.dT (putK kvs k v))) := .inr ⟨kvs, k, b, e, rfl, eb, hl, rfl⟩


section
variable {X : Cx} {pins : List (Addr × Obj)} {σ : St} {H : Hp} {s : Shared} {a : Addr} {y v : V} {u r : Value} {o : Option V} {A : Around} {E : Value → Shared → Prop}

theorem Inv.big (I : Inv X pins σ H s) : sysModules < s.heap.objs.size := by
  have h : mainGlobals < s.heap.objs.size := (I.mod.glob.keeps I.bk).lt
  exact Nat.lt_trans (by decide) h

/-- d[y], there -/
theorem d_getItem {Q : Value → Shared → Prop} (hu : A.units + 1 < cLine) (I : Inv X pins σ H s) (g : DGet H a y (some v)) (ry : RelV y u) (h : ∀ w' s', Inv X pins σ H s' → RelV v w' → Q w' s') :
    wpAny (model X.prog X.w) A (getItem (.ref a) u) Q E s := by
  rcases g with ⟨kvs, k, e, ey, l⟩ | ⟨kvs, k, b, e, ey, eb, l⟩
  · subst ey
    obtain ⟨z, hd, vs, rel, dd⟩ := dk_rd I.hok e
    obtain ⟨w', hw, rw'⟩ := RelO.some_of (v := v) (o := valueAt vs k) (by rw [l]; exact rel.val k)
    exact wpAny_getItem_of (kV_is ry) dd.mapOf hw (h w' _ (I.tok _) rw')
  · subst ey
    cases (show u = Value.ref b from ry)
    obtain ⟨z, hd, xs, rel, dd⟩ := dt_rd I.hok e
    obtain ⟨w', hw, rw'⟩ := RelO.some_of (v := v) (o := (atKey xs k).map (·.2)) (by rw [l]; exact rel.val k)
    obtain ⟨p, hp, hp2⟩ := Option.map_eq_some_iff.mp hw
    refine wpAny_getItem_heap (tupleKind_room_in1 hu) (key_of I.hok eb) dd hp ?_
    rw [hp2]
    exact h w' _ (I.tok _) rw'
/-- y in d -/
theorem d_in {Q : Value → Shared → Prop} (hu : A.units + 1 < cLine) (I : Inv X pins σ H s) (g : DGet H a y o) (ry : RelV y u) (h : ∀ s', Inv X pins σ H s' → Q (.bool o.isSome) s') :
    wpAny (model X.prog X.w) A (compareOp .In u (.ref a)) Q E s := by
  rcases g with ⟨kvs, k, e, ey, l⟩ | ⟨kvs, k, b, e, ey, eb, l⟩
  · subst ey
    obtain ⟨z, hd, vs, rel, dd⟩ := dk_rd I.hok e
    refine wpAny_in_of (kV_is ry) hd dd.mapOf ?_
    rw [← (rel.val k).isSome_eq, ← l]
    exact h _ (I.tok _)
  · subst ey
    cases (show u = Value.ref b from ry)
    obtain ⟨z, hd, xs, rel, dd⟩ := dt_rd I.hok e
    refine wpAny_in_heap (tupleKind_room_in1 hu) (key_of I.hok eb) hd dd ?_
    have q := (rel.val k).isSome_eq
    rw [Option.isSome_map] at q
    rw [← q, ← l]
    exact h _ (I.tok _)
theorem d_notIn {Q : Value → Shared → Prop} (hu : A.units + 1 < cLine) (I : Inv X pins σ H s) (g : DGet H a y o) (ry : RelV y u) (h : ∀ s', Inv X pins σ H s' → Q (.bool (!o.isSome)) s') :
    wpAny (model X.prog X.w) A (compareOp .NotIn u (.ref a)) Q E s := by
  rcases g with ⟨kvs, k, e, ey, l⟩ | ⟨kvs, k, b, e, ey, eb, l⟩
  · subst ey
    obtain ⟨z, hd, vs, rel, dd⟩ := dk_rd I.hok e
    refine wpAny_notIn_of (kV_is ry) hd dd.mapOf ?_
    rw [← (rel.val k).isSome_eq, ← l]
    exact h _ (I.tok _)
  · subst ey
    cases (show u = Value.ref b from ry)
    obtain ⟨z, hd, xs, rel, dd⟩ := dt_rd I.hok e
    refine wpAny_notIn_heap (tupleKind_room_in1 hu) (key_of I.hok eb) hd dd ?_
    have q := (rel.val k).isSome_eq
    rw [Option.isSome_map] at q
    rw [← q, ← l]
    exact h _ (I.tok _)
/-- a dict's object is replaced -/
theorem d_write {h' : Heap} {t' : Nat} {ob : HO} (I : Inv X pins σ H s) (mu : Mut (H a)) (hs : Heap.SameBut a s.heap h') (he : ∃ q, h'.get? a = some q) (new : ObjOk X.prog X.w (upd H a ob) h' a ob) :
    Inv X pins σ (upd H a ob) { s with heap := h', toks := t' } :=
  I.write (x := a) (e := a) mu (.inl rfl) (fun b q hb z => (hs.2 b hb).trans z) he new
theorem dk_new {P : Program} {w : World} {H' : Hp} {h' : Heap} {kvs : List (Key × V)} {vs : List (Key × Value)} (z : kvs.length ≤ sizeLine) (hd : (a == sysModules) = false) (rel : KV kvs vs) (dd : h'.DictOf (mixKind P w) a vs) :
    ObjOk P w H' h' a (.dK kvs) := ⟨z, hd, vs, rel, dd⟩
/-- d[y] = v -/
theorem d_setItem {H' : Hp} {Q : Unit → Shared → Prop} (hu : A.units + 1 < cLine) (I : Inv X pins σ H s) (g : DPut H a y v H') (ry : RelV y u) (rv : RelV v r) (h : ∀ s', Inv X pins σ H' s' → Q () s') :
    wpAny (model X.prog X.w) A (setItem (.ref a) u r) Q E s := by
  rcases g with ⟨kvs, k, e, ey, l, eH⟩ | ⟨kvs, k, b, e, ey, eb, l, eH⟩
  · subst ey eH
    obtain ⟨z, hd, vs, rel, dd⟩ := dk_of I.hok e
    have hz : vs.length ≤ sizeLine := by rw [← rel.length]; exact z
    have hl : (putK kvs k v).length ≤ sizeLine := by have := length_putK kvs k v; omega
    refine wpAny_setItem_pairs (hsz := hz) (kV_is ry) dd fun h' dd' hs => h _ ?_
    have he : ∃ q, h'.get? a = some q := let ⟨q, _, _, hq, _⟩ := dd'; ⟨q, hq⟩
    exact d_write I (by rw [e]; exact True.intro) hs he (dk_new hl hd (rel.put k rv) dd')
  · subst ey eH
    cases (show u = Value.ref b from ry)
    obtain ⟨z, hd, xs, rel, dd⟩ := dt_of I.hok e
    have hz : xs.length ≤ sizeLine := by rw [← Paired.length rel]; exact z
    have hl : (putK kvs k v).length ≤ sizeLine := by have := length_putK kvs k v; omega
    refine wpAny_setItem_heap (hsz := hz) (tupleKind_room_in1 hu) (key_of I.hok eb) dd fun h' dd' hs => h _ ?_
    obtain ⟨q, es, ep, hq, h2, h3, h4, _, h5⟩ := dd'
    refine d_write I (by rw [e]; exact True.intro) hs ⟨q, hq⟩ ⟨hl, hd, _, (rel.put k eb rv).keeps fun c ys ec => ?_, q, es, ep, hq, h2, h3, h4, h5⟩
    rw [upd_ne (ne_of ec e (fun z => nomatch z))]
    exact ec
end

section
variable {X : Cx} {pins : List (Addr × Obj)} {σ : St} {H : Hp} {s : Shared} {a : Addr} {kvs : List (Key × V)} {k : Key} {u : Value} {A : Around} {E : Value → Shared → Prop}
/-- del d[k] -/
theorem d_delItem {Q : Unit → Shared → Prop} (I : Inv X pins σ H s) (e : H a = some (.dK kvs)) (ry : RelV (kV k) u) (l : (valV kvs k).isSome = true) (h : ∀ s', Inv X pins σ (upd H a (.dK (dropK kvs k))) s' → Q () s') :
    wpAny (model X.prog X.w) A (delItem (.ref a) u) Q E s := by
  obtain ⟨z, hd, vs, rel, dd⟩ := dk_of I.hok e
  refine wpAny_delItem_slot dd.typeIs (by decide) PySem.F.slot_dict_delitem
    (call_meetsIn PySem.F.slot_dict_delitem dd.typeIs PySem.F.entry_dict_delitem (PySem.F.args_dict_delitem_2 _ _) (meets_dict_delitem_pairs (mixKind X.prog X.w) a (kV_is ry)) ⟨vs, dd, by rw [← rel.length]; exact z, by rw [← (rel.val k).isSome_eq]; exact l, fun h' dd' hs => h _ ?_⟩)
  have he : ∃ q, h'.get? a = some q := let ⟨q, _, _, hq, _⟩ := dd'; ⟨q, hq⟩
  exact d_write I (by rw [e]; exact True.intro) hs he (dk_new (Nat.le_trans (dropK_le kvs k) z) hd (rel.drop k) dd')
/-- d.pop(k[, x]), there -/
theorem d_pop {v : V} {more : List Value} {Q : Value → Shared → Prop} (I : Inv X pins σ H s) (e : H a = some (.dK kvs)) (ry : RelV (kV k) u) (l : valV kvs k = some v) (hm : more = [] ∨ ∃ x, more = [x])
    (h : ∀ w' s', Inv X pins σ (upd H a (.dK (dropK kvs k))) s' → RelV v w' → Q w' s') : wpAny (model X.prog X.w) A (call (.builtin "dict.pop") (.ref a :: u :: more)) Q E s := by
  obtain ⟨z, hd, vs, rel, dd⟩ := dk_of I.hok e
  obtain ⟨w', hw, rw'⟩ := RelO.some_of (v := v) (o := valueAt vs k) (by rw [← l]; exact rel.val k)
  have hp : (keyPart u).isSome = true := by
    cases k with
    | inl i => obtain ⟨t, q⟩ := (show ∃ t, u = Value.int i t from ry); subst q; rfl
    | inr x => obtain ⟨t, q⟩ := (show ∃ t, u = Value.str x t from ry); subst q; rfl
  have ha : argsOk "dict.pop" ⟨.ref a :: u :: more, []⟩ := by
    rcases hm with q | ⟨x, q⟩
    · subst q; exact PySem.F.args_dict_pop_2 _ _
    · subst q; exact PySem.F.args_dict_pop_3 _ _ _
  refine call_meetsIn PySem.F.slot_dict_pop dd.typeIs PySem.F.entry_dict_pop ha (meets_dict_pop_there (mixKind X.prog X.w) a (kV_is ry) more hm hp)
    ⟨vs, w', dd, by rw [← rel.length]; exact z, hw, fun h' dd' hs => h w' _ ?_ rw'⟩
  have he : ∃ q, h'.get? a = some q := let ⟨q, _, _, hq, _⟩ := dd'; ⟨q, hq⟩
  exact d_write I (by rw [e]; exact True.intro) hs he (dk_new (Nat.le_trans (dropK_le kvs k) z) hd (rel.drop k) dd')
/-- d.pop(k, x), not there -/
theorem d_popD {r : Value} {Q : Value → Shared → Prop} (I : Inv X pins σ H s) (e : H a = some (.dK kvs)) (ry : RelV (kV k) u) (l : valV kvs k = none) (h : ∀ s', Inv X pins σ H s' → Q r s') :
    wpAny (model X.prog X.w) A (call (.builtin "dict.pop") [.ref a, u, r]) Q E s := by
  obtain ⟨z, hd, vs, rel, dd⟩ := dk_of I.hok e
  have hn : valueAt vs k = none := RelO.none_of (by rw [← l]; exact rel.val k)
  have hp : (keyPart u).isSome = true := by
    cases k with
    | inl i => obtain ⟨t, q⟩ := (show ∃ t, u = Value.int i t from ry); subst q; rfl
    | inr x => obtain ⟨t, q⟩ := (show ∃ t, u = Value.str x t from ry); subst q; rfl
  exact call_meetsIn PySem.F.slot_dict_pop dd.typeIs PySem.F.entry_dict_pop (PySem.F.args_dict_pop_3 _ _ _) (meets_dict_pop_default (mixKind X.prog X.w) a (kV_is ry) hd hp r) ⟨vs, dd, hn, h _ (I.tok _)⟩
/-- d.clear() -/
theorem d_clear {Q : Value → Shared → Prop} (I : Inv X pins σ H s) (e : H a = some (.dK kvs)) (h : ∀ s', Inv X pins σ (upd H a (.dK [])) s' → Q .none s') : wpAny (model X.prog X.w) A (call (.builtin "dict.clear") [.ref a]) Q E s := by
  obtain ⟨z, hd, vs, rel, dd⟩ := dk_of I.hok e
  refine call_meetsIn PySem.F.slot_dict_clear dd.typeIs PySem.F.entry_dict_clear (PySem.F.args_dict_clear_1 _) (meets_dict_clear (mixKind X.prog X.w) a) ⟨vs, dd, by rw [← rel.length]; exact z, fun h' dd' hs => h _ ?_⟩
  have he : ∃ q, h'.get? a = some q := let ⟨q, _, _, hq, _⟩ := dd'; ⟨q, hq⟩
  exact d_write (t' := s.toks) I (by rw [e]; exact True.intro) hs he (dk_new (Nat.zero_le _) hd .nil dd')
/-- len(d) -/
theorem d_len {Q : Value → Shared → Prop} (I : Inv X pins σ H s) (e : Rd H a (.dK kvs)) (h : ∀ t s', Inv X pins σ H s' → Q (.int kvs.length t) s') : wpAny (model X.prog X.w) A (call (.builtin "len") [.ref a]) Q E s := by
  obtain ⟨z, hd, vs, rel, dd⟩ := dk_rd I.hok e
  refine call_len_dict hd dd (by rw [← rel.length]; rw [sizeLine_eq] at z; omega) ?_
  rw [← rel.length]
  exact h _ _ (I.tok _)
/-- if d -/
theorem d_truth {Q : Bool → Shared → Prop} (I : Inv X pins σ H s) (e : Rd H a (.dK kvs)) (h : ∀ s', Inv X pins σ H s' → Q (!kvs.isEmpty) s') : wpAny (model X.prog X.w) A (truthy (.ref a)) Q E s := by
  obtain ⟨z, hd, vs, rel, dd⟩ := dk_rd I.hok e
  refine wpAny_truthy_dict hd dd (by rw [← rel.length]; rw [sizeLine_eq] at z; omega) ?_
  have q : kvs.isEmpty = vs.isEmpty := by cases rel <;> rfl
  rw [← q]
  exact h _ (I.tok _)
end


/-! ### readings and rules -/
/-- the element of a subscription, not a slice -/
def NoSl (i : Expr) : Prop := ∀ ov iv, subscripted i false ov iv = operate [ov, iv] (getItem ov iv)
theorem subD_of {prog : Program} {w : World} {A : Around} {E : Value → Shared → Prop} {s : Shared} {env : Env} {value slice : Expr} {pos : Pos} {T id : String} {Q : Value → Shared → Prop}
    (hl : typeLookup (.type T) "__getitem__" = pure (some (.builtin id))) (hs : NoSl slice)
    (h : wpAny (model prog w) A (eval value env) (fun o s₁ => wpAny (model prog w) A (eval slice env) (fun i s₂ => s₂.TypeIs o T ∧ wpAny (model prog w) A (getItem o i) Q E s₂) E s₁) E s) :
    wpAny (model prog w) A (eval (.Subscript value slice pos) env) Q E s := by
  refine Subscript_ (wpAny_mono h (fun o s₁ h₁ => wpAny_mono h₁ (fun i s₂ h₂ => ?_) fun _ _ x => x) fun _ _ x => x)
  obtain ⟨hT, h₂⟩ := h₂
  unfold subscriptTail
  refine wpAny_bind ?_
  rw [getitemInPython_of_ne hT.not_modules]
  refine wpAny_bind (wpAny_specialOf hT hl ?_)
  have fin : wpAny (model prog w) A (subscripted slice false o i) (fun r s₃ => wpAny (model prog w) A (letTemporaryGo value o r >>= fun _ => pure r) Q E s₃) E s₂ := by
    rw [hs o i]
    exact wpAny_operating (wpAny_mono h₂ (fun r s₃ h₃ => wpAny_bind (wpAny_letTemporaryGo (wpAny_pure h₃))) fun _ _ x => x)
  first
    | exact wpAny_pure (wpAny_bind fin)
    | exact wpAny_bind (wpAny_pure (wpAny_bind fin))
    | exact wpAny_bind fin

theorem dict_typeIs {X : Cx} {pins : List (Addr × Obj)} {σ : St} {H : Hp} {s : Shared} {a : Addr} {y : V} {o : Option V} (I : Inv X pins σ H s) (g : DGet H a y o) : s.TypeIs (.ref a) "dict" := by
  rcases g with ⟨kvs, k, e, _, _⟩ | ⟨kvs, k, b, e, _, _, _⟩
  · obtain ⟨_, _, vs, _, dd⟩ := dk_rd I.hok e
    exact dd.typeIs
  · obtain ⟨_, _, xs, _, dd⟩ := dt_rd I.hok e
    exact dd.typeIs
theorem dict_noDict {X : Cx} {pins : List (Addr × Obj)} {σ : St} {H : Hp} {s : Shared} {a : Addr} {y : V} {o : Option V} (I : Inv X pins σ H s) (g : DGet H a y o) :
    ∀ b, Value.ref a = .ref b → ∃ ob, s.heap.get? b = some ob ∧ ob.dict = none := fun b q => by
  cases q
  rcases g with ⟨kvs, k, e, _, _⟩ | ⟨kvs, k, b, e, _, _, _⟩
  · obtain ⟨_, _, vs, _, ob, _, _, h1, h2, _⟩ := dk_rd I.hok e
    exact ⟨ob, h1, h2.2.1⟩
  · obtain ⟨_, _, xs, _, ob, _, _, h1, h2, _⟩ := dt_rd I.hok e
    exact ⟨ob, h1, h2.2.1⟩

/-- d[y] -/
def tDGet (td ty : TE) : TE := fun σ H Q => td σ H fun x H1 => ty σ H1 fun y H2 => ∃ a v, x = .ref a ∧ DGet H2 a y (some v) ∧ Q v H2
/-- y in d, y not in d -/
def tDIn (ty td : TE) : TE := fun σ H Q => ty σ H fun y H1 => td σ H1 fun x H2 => ∃ a o, x = .ref a ∧ DGet H2 a y o ∧ Q (.bl o.isSome) H2
def tDNotIn (ty td : TE) : TE := fun σ H Q => ty σ H fun y H1 => td σ H1 fun x H2 => ∃ a o, x = .ref a ∧ DGet H2 a y o ∧ Q (.bl (!o.isSome)) H2
/-- d[y] = v -/
def sDPut (td ty tv : TE) : TS := fun D σ H => tv σ H fun v H1 => td σ H1 fun x H2 => ty σ H2 fun y H3 => ∃ a H4, x = .ref a ∧ DPut H3 a y v H4 ∧ D.nx σ H4
/-- d[y] op= v -/
def sDAug (td ty tv : TE) (rd : V → V → Hp → VK → Prop) : TS := fun D σ H => td σ H fun x H1 => ty σ H1 fun y H2 => ∃ a v, x = .ref a ∧ DGet H2 a y (some v) ∧
  tv σ H2 fun y2 H3 => rd v y2 H3 fun z H4 => ∃ H5, DPut H4 a y z H5 ∧ D.nx σ H5
/-- del d[y] -/
def sDDel (td ty : TE) : TS := fun D σ H => td σ H fun x H1 => ty σ H1 fun y H2 => ∃ a kvs k, x = .ref a ∧ H2 a = some (.dK kvs) ∧ y = kV k ∧ (valV kvs k).isSome = true ∧ D.nx σ (upd H2 a (.dK (dropK kvs k)))

section
variable {X : Cx} {o i e value : Expr} {pos pos' tpos : Pos} {td ty tv : TE}
theorem pe_dget (hu : X.A.units + 1 < cLine) (ho : PE X o td) (hi : PE X i ty) (hs : NoSl i) : PE X (.Subscript o i pos) (tDGet td ty) := by
  intro pins s σ H Q I h
  refine subD_of PySem.F.slot_dict_getitem.lookup hs (thn (ho pins s σ H _ I h) fun u s1 ⟨x, H1, I1, rx, q1⟩ => thn (hi pins s1 σ H1 _ I1 q1) fun iv s2 ⟨y, H2, I2, ry, a, v, ex, g, q2⟩ => ?_)
  subst ex
  obtain rfl : u = Value.ref a := rx
  exact ⟨dict_typeIs I2 g, d_getItem hu I2 g ry fun w' s3 I3 rw' => ⟨v, H2, I3, rw', q2⟩⟩
theorem pc_din (hu : X.A.units + 1 < cLine) (hi : PE X i ty) (ho : PE X o td) : PC X .In i o (tDIn ty td) := by
  intro pins s σ H Q I h
  refine thn (hi pins s σ H _ I h) fun iv s1 ⟨y, H1, I1, ry, q1⟩ => thn (ho pins s1 σ H1 _ I1 q1) fun u s2 ⟨x, H2, I2, rx, a, ov, ex, g, q2⟩ => ?_
  subst ex
  obtain rfl : u = Value.ref a := rx
  exact d_in hu I2 g ry fun s3 I3 => ⟨.bl ov.isSome, H2, I3, rfl, q2⟩
theorem pc_dnotin (hu : X.A.units + 1 < cLine) (hi : PE X i ty) (ho : PE X o td) : PC X .NotIn i o (tDNotIn ty td) := by
  intro pins s σ H Q I h
  refine thn (hi pins s σ H _ I h) fun iv s1 ⟨y, H1, I1, ry, q1⟩ => thn (ho pins s1 σ H1 _ I1 q1) fun u s2 ⟨x, H2, I2, rx, a, ov, ex, g, q2⟩ => ?_
  subst ex
  obtain rfl : u = Value.ref a := rx
  exact d_notIn hu I2 g ry fun s3 I3 => ⟨.bl (!ov.isSome), H2, I3, rfl, q2⟩
theorem ps_dput (hu : X.A.units + 1 < cLine) (ho : PE X o td) (hi : PE X i ty) (hv : PE X value tv) (hs : swapsWith value (some (.Subscript o i pos')) pos.line X.env = pure false) :
    PS X (.Assign [.Subscript o i pos'] value pos) (sDPut td ty tv) := by
  intro pins s σ H D I h
  refine wpAny_Assign_Subscript (thn (hv pins s σ H _ I h) fun r s1 ⟨v, H1, I1, rv, q1⟩ => thn (ho pins s1 σ H1 _ I1 q1) fun u s2 ⟨x, H2, I2, rx, q2⟩ => thn (hi pins s2 σ H2 _ I2 q2) fun iv s3 ⟨y, H3, I3, ry, a, H4, ex, g, q3⟩ => ?_) hs
  subst ex
  obtain rfl : u = Value.ref a := rx
  exact d_setItem hu I3 g ry rv fun s4 I4 => ⟨σ, H4, I4, q3⟩
theorem ps_daug {op : Operator} {rd : V → V → Hp → VK → Prop} (hu : X.A.units + 1 < cLine) (ho : PE X o td) (hi : PE X i ty) (hv : PE X value tv) (hop : InOp X op rd)
    (ha : ∀ ov iv new, augStore i ov iv new = (do holding [new, ov, iv] (setItem ov iv new); release [new, ov, iv] []; pure .next)) : PS X (.AugAssign (.Subscript o i tpos) op value pos) (sDAug td ty tv rd) := by
  intro pins s σ H D I h
  refine wpAny_AugAssign_SubscriptAny (thn (ho pins s σ H _ I h) fun u s1 ⟨x, H1, I1, rx, q1⟩ => thn (hi pins s1 σ H1 _ I1 q1) fun iv s2 ⟨y, H2, I2, ry, a, v, ex, g, q2⟩ => ?_) ha
  subst ex
  obtain rfl : u = Value.ref a := rx
  refine d_getItem hu I2 g ry fun w' s3 I3 rw' => thn (hv pins s3 σ H2 _ I3 q2) fun w2 s4 ⟨y2, H3, I4, ry2, q3⟩ => thn (hop pins s4 σ H3 v y2 w' w2 _ I4 rw' ry2 q3) fun w3 s5 ⟨z, H4, I5, rz, H5, g5, q4⟩ => ?_
  exact d_setItem hu I5 g5 ry rz fun s6 I6 => ⟨σ, H5, I6, q4⟩
theorem ps_ddel (ho : PE X o td) (hi : PE X i ty) : PS X (.Delete [.Subscript o i tpos] pos) (sDDel td ty) := by
  intro pins s σ H D I h
  refine wpAny_Delete (wpAny_deleteEach_cons (wpAny_delete_Subscript (thn (ho pins s σ H _ I h) fun u s1 ⟨x, H1, I1, rx, q1⟩ => thn (hi pins s1 σ H1 _ I1 q1) fun iv s2 ⟨y, H2, I2, ry, a, kvs, k, ex, e, ey, l, q2⟩ => ?_)))
  subst ex ey
  obtain rfl : u = Value.ref a := rx
  exact d_delItem I2 e ry l fun s3 I3 => wpAny_deleteEach_nil ⟨σ, _, I3, q2⟩
end


/-! ### displays -/
theorem dk_empty {P : Program} {w : World} {H : Hp} (h : Heap) (hb : sysModules < h.objs.size) : ObjOk P w H (h.push { cls := .type "dict", data := .dict #[] }) h.objs.size (.dK []) :=
  ⟨Nat.zero_le _, beq_eq_false_iff_ne.mpr (Ne.symm (Nat.ne_of_lt hb)), [], .nil, Heap.DictOf.new h⟩
theorem dt_empty {P : Program} {w : World} {H : Hp} (h : Heap) (hb : sysModules < h.objs.size) : ObjOk P w H (h.push { cls := .type "dict", data := .dict #[] }) h.objs.size (.dT []) :=
  ⟨Nat.zero_le _, beq_eq_false_iff_ne.mpr (Ne.symm (Nat.ne_of_lt hb)), [], .nil, _, #[], 0, Heap.get?_push_size _ rfl, ⟨rfl, rfl, rfl⟩, rfl, rfl, List.nodup_nil⟩
/-- {}, to be a dict of the kind that is wanted -/
def tDNewK : TE := fun _ H Q => ∀ p, H p = none → Q (.ref p) (upd H p (.dK []))
def tDNewT : TE := fun _ H Q => ∀ p, H p = none → Q (.ref p) (upd H p (.dT []))
section
variable {X : Cx} {pos : Pos}
theorem pe_dnewK : PE X (.Dict [] [] pos) tDNewK := fun pins s σ H Q I h =>
  wpAny_Dict_empty ⟨.ref s.heap.objs.size, _, I.laid (a := s.heap.objs.size) (o := .dK []) (t' := s.toks) (fun _ _ q => Heap.get?_push_of_some _ q) (Nat.le_refl _) (dk_empty s.heap I.big), rfl, h _ (I.hok.fresh (Nat.le_refl _))⟩
theorem pe_dnewT : PE X (.Dict [] [] pos) tDNewT := fun pins s σ H Q I h =>
  wpAny_Dict_empty ⟨.ref s.heap.objs.size, _, I.laid (a := s.heap.objs.size) (o := .dT []) (t' := s.toks) (fun _ _ q => Heap.get?_push_of_some _ q) (Nat.le_refl _) (dt_empty s.heap I.big), rfl, h _ (I.hok.fresh (Nat.le_refl _))⟩
end

/-- the pairs of a display, from the left -/
def tPairs : List (TE × TE) → St → Hp → (List (V × V) → Hp → Prop) → Prop
  | [], _, H, Q => Q [] H
  | (tk, tv) :: r, σ, H, Q => tk σ H fun x H1 => tv σ H1 fun y H2 => tPairs r σ H2 fun ps H3 => Q ((x, y) :: ps) H3
abbrev VV : List (V × V) → List (Value × Value) → Prop := Paired fun p q => RelV p.1 q.1 ∧ RelV p.2 q.2
def PPs (X : Cx) (pos : Pos) (keys : List (Option Expr)) (values : List Expr) (trs : List (TE × TE)) : Prop :=
  ∀ (pins : List (Addr × Obj)) (s : Shared) (σ : St) (H : Hp) (Q : List (V × V) → Hp → Prop), Inv X pins σ H s → tPairs trs σ H Q →
    wpAny (model X.prog X.w) X.A (evalPairs (pairTrees keys values X.env pos)) (fun vs s' => ∃ ps H', Inv X pins σ H' s' ∧ VV ps vs ∧ Q ps H') X.xe s
theorem pps_nil {X : Cx} {pos : Pos} : PPs X pos [] [] [] := fun pins s σ H Q I h => pairTrees_nil_walk ⟨[], H, I, .nil, h⟩
theorem pps_cons {X : Cx} {pos : Pos} {k v : Expr} {ks : List (Option Expr)} {vs : List Expr} {tk tv : TE} {trs : List (TE × TE)} (hk : PE X k tk) (hv : PE X v tv) (hr : PPs X pos ks vs trs) :
    PPs X pos (some k :: ks) (v :: vs) ((tk, tv) :: trs) := fun pins s σ H Q I h =>
  pairTrees_cons_walk (thn (hk pins s σ H _ I h) fun u s1 ⟨x, H1, I1, rx, q1⟩ => thn (hv pins s1 σ H1 _ I1 q1) fun w2 s2 ⟨y, H2, I2, ry, q2⟩ =>
    thn (hr pins s2 σ H2 _ I2 q2) fun ws s3 ⟨ps, H3, I3, rel, q3⟩ => ⟨(x, y) :: ps, H3, I3, .cons ⟨rx, ry⟩ rel, q3⟩)

def mergeK (kvs more : List (Key × V)) : List (Key × V) := more.foldl (fun acc kv => putK acc kv.1 kv.2) kvs
theorem KV.merge : ∀ {more : List (Key × V)} {rs : List (Key × Value)} {kvs : List (Key × V)} {vs : List (Key × Value)}, KV more rs → KV kvs vs → KV (mergeK kvs more) (merged vs rs) := by
  intro more rs kvs vs r
  unfold KV at r
  induction r generalizing kvs vs with
  | nil => intro q; exact q
  | @cons p q ps qs h t ih =>
    intro r0
    have e : KV (putK kvs p.1 p.2) (stored vs q.1 q.2) := by
      have := r0.put p.1 h.2
      rw [← h.1]; exact this
    exact ih e
theorem length_mergeK : ∀ (more kvs : List (Key × V)), (mergeK kvs more).length ≤ kvs.length + more.length
  | [], kvs => by show kvs.length ≤ kvs.length + 0; omega
  | p :: r, kvs => by
    have h1 := length_mergeK r (putK kvs p.1 p.2)
    have h2 := length_putK kvs p.1 p.2
    show (mergeK (putK kvs p.1 p.2) r).length ≤ _
    rw [List.length_cons]; omega
theorem carries_of {P : Program} {w : World} : ∀ {kvs : List (Key × V)} {ws : List (Value × Value)}, VV (kvs.map fun kv => (kV kv.1, kv.2)) ws → ∃ rs, Carries (mixKind P w) ws rs ∧ KV kvs rs
  | [], _, r => by rw [List.map_nil] at r; cases r; exact ⟨[], True.intro, .nil⟩
  | p :: kvs, _, r => by
    rw [List.map_cons] at r
    cases r with
    | @cons a b as bs h t =>
      obtain ⟨rs, c, q⟩ := carries_of (P := P) (w := w) t
      obtain ⟨b1, b2⟩ := b
      exact ⟨(p.1, b2) :: rs, ⟨kV_is h.1, rfl, c⟩, .cons ⟨rfl, h.2⟩ q⟩
/-- {k: v, ..} with keys ints and texts; the new dict stands empty while the pairs are made -/
def tDisp (trs : List (TE × TE)) : TE := fun σ H Q => ∀ p, H p = none → tPairs trs σ (upd H p (.dK [])) fun ps H2 => H2 p = some (.dK []) ∧ ∃ kvs : List (Key × V), ps = kvs.map (fun kv => (kV kv.1, kv.2)) ∧ kvs.length ≤ 15 ∧ Q (.ref p) (upd H2 p (.dK (mergeK [] kvs)))
theorem pe_disp {X : Cx} {pos : Pos} {keys : List (Option Expr)} {values : List Expr} {trs : List (TE × TE)} (h : PPs X pos keys values trs) (hall : keys.all (·.isSome) = true) (hl : keys.length = values.length) (h0 : keys ≠ [])
    (h15 : keys.length ≤ 15) : PE X (.Dict keys values pos) (tDisp trs) := by
  intro pins s σ H Q I q
  have hn := I.hok.fresh (Nat.le_refl s.heap.objs.size)
  have I1 := I.laid (a := s.heap.objs.size) (o := .dK []) (h' := s.heap.push { cls := .type "dict", data := .dict #[] }) (t' := s.toks) (fun _ _ q => Heap.get?_push_of_some _ q) (Nat.le_refl _) (dk_empty s.heap I.big)
  refine wpAny_Dict_walk (knd := mixKind X.prog X.w) hall hl h0 h15 (thn (h pins _ σ _ _ I1 (q _ hn)) fun ws s2 ⟨ps, H2, I2, rel, e, kvs, ep, lk, q2⟩ => ?_)
  subst ep
  obtain ⟨rs, c, rk⟩ := carries_of (P := X.prog) (w := X.w) rel
  obtain ⟨z, hd, vs0, r0, dd⟩ := dk_of I2.hok e
  cases r0
  refine ⟨rs, c, dd, fun h' dd' hs => ⟨.ref s.heap.objs.size, _, ?_, rfl, q2⟩⟩
  have hz : (mergeK [] kvs).length ≤ sizeLine := by
    have h1 := length_mergeK kvs []
    rw [List.length_nil] at h1
    rw [sizeLine_eq]; omega
  have he : ∃ q, h'.get? s.heap.objs.size = some q := let ⟨q, _, _, hq, _⟩ := dd'; ⟨q, hq⟩
  exact d_write I2 (by rw [e]; exact True.intro) hs he (dk_new hz hd (rk.merge .nil) dd')


/-! ### methods -/
/-- a method call o.m(e) of a built-in, with one argument: what must be seen of the text -/
structure M1 (X : Cx) (o : Expr) (m : Str) (apos : Pos) (e : Expr) (cpos : Pos) : Prop where
  base : attributeBase o m X.env (eval o X.env) = eval o X.env
  few : ((backTo cpos (starEach [e] X.env)).all (fun x => !x.1) && (backToKw cpos (keywordEach [] X.env)).all (fun x => x.1.isSome)
    && decide (([e] : List Expr).length + ([] : List Keyword).length + (if ([] : List Keyword).isEmpty then 0 else 1) < 30)) = true
  line : (apos.endLine == cpos.line) = true
  trees : backTo cpos (starEach [e] X.env) = [(false, eval e X.env)]
structure M2 (X : Cx) (o : Expr) (m : Str) (apos : Pos) (e f : Expr) (cpos : Pos) : Prop where
  base : attributeBase o m X.env (eval o X.env) = eval o X.env
  few : ((backTo cpos (starEach [e, f] X.env)).all (fun x => !x.1) && (backToKw cpos (keywordEach [] X.env)).all (fun x => x.1.isSome)
    && decide (([e, f] : List Expr).length + ([] : List Keyword).length + (if ([] : List Keyword).isEmpty then 0 else 1) < 30)) = true
  line : (apos.endLine == cpos.line) = true
  trees : backTo cpos (starEach [e, f] X.env) = [(false, eval e X.env), (false, eval f X.env)]

/-- a is a dict, whatever its keys -/
def IsD (H : Hp) (a : Addr) : Prop := (∃ kvs, Rd H a (.dK kvs)) ∨ ∃ kvs, Rd H a (.dT kvs)
theorem isD_at {X : Cx} {pins : List (Addr × Obj)} {σ : St} {H : Hp} {s : Shared} {a : Addr} (I : Inv X pins σ H s) (d : IsD H a) :
    s.TypeIs (.ref a) "dict" ∧ (∀ b, Value.ref a = .ref b → ∃ ob, s.heap.get? b = some ob ∧ ob.dict = none) ∧ (a == sysModules) = false := by
  rcases d with ⟨kvs, e⟩ | ⟨kvs, e⟩
  · obtain ⟨_, hd, vs, _, dd⟩ := dk_rd I.hok e
    refine ⟨dd.typeIs, fun b q => ?_, hd⟩
    cases q
    obtain ⟨ob, _, _, h1, h2, _⟩ := dd
    exact ⟨ob, h1, h2.2.1⟩
  · obtain ⟨_, hd, xs, _, dd⟩ := dt_rd I.hok e
    refine ⟨dd.typeIs, fun b q => ?_, hd⟩
    cases q
    obtain ⟨ob, _, _, h1, h2, _⟩ := dd
    exact ⟨ob, h1, h2.2.1⟩

section
variable {X : Cx} {pins : List (Addr × Obj)} {σ : St} {H : Hp} {s : Shared} {a : Addr} {y d : V} {u r : Value} {o : Option V} {A : Around} {E : Value → Shared → Prop}
/-- d.get(y) -/
theorem d_get1 {Q : Value → Shared → Prop} (hu : A.units + 1 < cLine) (I : Inv X pins σ H s) (g : DGet H a y o) (ry : RelV y u) (h : ∀ w' s', Inv X pins σ H s' → RelV (o.getD .non) w' → Q w' s') :
    wpAny (model X.prog X.w) A (call (.builtin "dict.get") [.ref a, u]) Q E s := by
  rcases g with ⟨kvs, k, e, ey, l⟩ | ⟨kvs, k, b, e, ey, eb, l⟩
  · subst ey
    obtain ⟨z, hd, vs, rel, dd⟩ := dk_rd I.hok e
    refine call_meetsIn PySem.F.slot_dict_get dd.typeIs PySem.F.entry_dict_get (PySem.F.args_dict_get_2 _ _) (meets_dict_get (mixKind X.prog X.w) a (kV_is ry) hd) ⟨_, dd.mapOf, h _ _ (I.tok _) ?_⟩
    rw [l]
    exact (rel.val k).getD rfl
  · subst ey
    cases (show u = Value.ref b from ry)
    obtain ⟨z, hd, xs, rel, dd⟩ := dt_rd I.hok e
    refine call_meetsIn PySem.F.slot_dict_get dd.typeIs PySem.F.entry_dict_get (PySem.F.args_dict_get_2 _ _) (meetsH_dict_get (tupleKind (mixKind X.prog X.w)) a b hd) ⟨tupleKind_room_in1 hu, k, xs, key_of I.hok eb, dd, h _ _ (I.tok _) ?_⟩
    rw [l]
    exact (rel.val k).getD rfl
/-- d.get(y, x) -/
theorem d_get2 {Q : Value → Shared → Prop} (hu : A.units + 1 < cLine) (I : Inv X pins σ H s) (g : DGet H a y o) (ry : RelV y u) (rd : RelV d r) (h : ∀ w' s', Inv X pins σ H s' → RelV (o.getD d) w' → Q w' s') :
    wpAny (model X.prog X.w) A (call (.builtin "dict.get") [.ref a, u, r]) Q E s := by
  rcases g with ⟨kvs, k, e, ey, l⟩ | ⟨kvs, k, b, e, ey, eb, l⟩
  · subst ey
    obtain ⟨z, hd, vs, rel, dd⟩ := dk_rd I.hok e
    refine call_meetsIn PySem.F.slot_dict_get dd.typeIs PySem.F.entry_dict_get (PySem.F.args_dict_get_3 _ _ _) (meets_dict_get_default (mixKind X.prog X.w) a (kV_is ry) hd r) ⟨_, dd.mapOf, h _ _ (I.tok _) ?_⟩
    rw [l]
    exact (rel.val k).getD rd
  · subst ey
    cases (show u = Value.ref b from ry)
    obtain ⟨z, hd, xs, rel, dd⟩ := dt_rd I.hok e
    refine call_meetsIn PySem.F.slot_dict_get dd.typeIs PySem.F.entry_dict_get (PySem.F.args_dict_get_3 _ _ _) (meetsH_dict_get_default (tupleKind (mixKind X.prog X.w)) a b hd r) ⟨tupleKind_room_in1 hu, k, xs, key_of I.hok eb, dd, h _ _ (I.tok _) ?_⟩
    rw [l]
    exact (rel.val k).getD rd
end

def tDGet1 (td ty : TE) : TE := fun σ H Q => td σ H fun x H1 => ∃ a, x = .ref a ∧ IsD H1 a ∧ ty σ H1 fun y H2 => ∃ o, DGet H2 a y o ∧ Q (o.getD .non) H2
def tDGet2 (td ty tx : TE) : TE := fun σ H Q => td σ H fun x H1 => ∃ a, x = .ref a ∧ IsD H1 a ∧ ty σ H1 fun y H2 => tx σ H2 fun z H3 => ∃ o, DGet H3 a y o ∧ Q (o.getD z) H3
/-- d.pop(k): there; d.pop(k, x): there or not -/
def tDPop1 (td ty : TE) : TE := fun σ H Q => td σ H fun x H1 => ∃ a, x = .ref a ∧ IsD H1 a ∧ ty σ H1 fun y H2 => ∃ kvs k v, H2 a = some (.dK kvs) ∧ y = kV k ∧ valV kvs k = some v ∧ Q v (upd H2 a (.dK (dropK kvs k)))
def tDPop2 (td ty tx : TE) : TE := fun σ H Q => td σ H fun x H1 => ∃ a, x = .ref a ∧ IsD H1 a ∧ ty σ H1 fun y H2 => tx σ H2 fun z H3 => ∃ kvs k, H3 a = some (.dK kvs) ∧ y = kV k ∧
  (∀ v, valV kvs k = some v → Q v (upd H3 a (.dK (dropK kvs k)))) ∧ (valV kvs k = none → Q z H3)
section
variable {X : Cx} {o e f : Expr} {apos cpos : Pos} {td ty tx : TE}
theorem pe_dget1 (hu : X.A.units + 1 < cLine) (ho : PE X o td) (he : PE X e ty) (m : M1 X o "get" apos e cpos) : PE X (.Call (.Attribute o "get" apos) [e] [] cpos) (tDGet1 td ty) := by
  intro pins s σ H Q I h
  refine wpAny_Call_method m.base m.few m.line PySem.F.plainAttrs_dict PySem.F.slot_dict_get PySem.F.type_dict_get (thn (ho pins s σ H _ I h) fun u s1 ⟨x, H1, I1, rx, a, ex, d, q1⟩ => ?_)
  subst ex
  obtain rfl : u = Value.ref a := rx
  obtain ⟨t1, t2, _⟩ := isD_at I1 d
  refine ⟨t1, t2, ?_⟩
  rw [m.trees]
  refine Calls.callWith_builtin rfl (Calls.evalArgs_plain (Calls.spliced_cons (thn (he pins s1 σ H1 _ I1 q1) fun iv s2 ⟨y, H2, I2, ry, ov, g, q2⟩ => Calls.spliced_nil ?_)))
  exact d_get1 hu I2 g ry fun w' s3 I3 rw' => ⟨_, H2, I3, rw', q2⟩
theorem pe_dget2 (hu : X.A.units + 1 < cLine) (ho : PE X o td) (he : PE X e ty) (hf : PE X f tx) (m : M2 X o "get" apos e f cpos) : PE X (.Call (.Attribute o "get" apos) [e, f] [] cpos) (tDGet2 td ty tx) := by
  intro pins s σ H Q I h
  refine wpAny_Call_method m.base m.few m.line PySem.F.plainAttrs_dict PySem.F.slot_dict_get PySem.F.type_dict_get (thn (ho pins s σ H _ I h) fun u s1 ⟨x, H1, I1, rx, a, ex, d, q1⟩ => ?_)
  subst ex
  obtain rfl : u = Value.ref a := rx
  obtain ⟨t1, t2, _⟩ := isD_at I1 d
  refine ⟨t1, t2, ?_⟩
  rw [m.trees]
  refine Calls.callWith_builtin rfl (Calls.evalArgs_plain (Calls.spliced_cons (thn (he pins s1 σ H1 _ I1 q1) fun iv s2 ⟨y, H2, I2, ry, q2⟩ =>
    Calls.spliced_cons (thn (hf pins s2 σ H2 _ I2 q2) fun fv s3 ⟨z, H3, I3, rz, ov, g, q3⟩ => Calls.spliced_nil ?_))))
  exact d_get2 hu I3 g ry rz fun w' s4 I4 rw' => ⟨_, H3, I4, rw', q3⟩
theorem pe_dpop1 (ho : PE X o td) (he : PE X e ty) (m : M1 X o "pop" apos e cpos) : PE X (.Call (.Attribute o "pop" apos) [e] [] cpos) (tDPop1 td ty) := by
  intro pins s σ H Q I h
  refine wpAny_Call_method m.base m.few m.line PySem.F.plainAttrs_dict PySem.F.slot_dict_pop PySem.F.type_dict_pop (thn (ho pins s σ H _ I h) fun u s1 ⟨x, H1, I1, rx, a, ex, d, q1⟩ => ?_)
  subst ex
  obtain rfl : u = Value.ref a := rx
  obtain ⟨t1, t2, _⟩ := isD_at I1 d
  refine ⟨t1, t2, ?_⟩
  rw [m.trees]
  refine Calls.callWith_builtin rfl (Calls.evalArgs_plain (Calls.spliced_cons (thn (he pins s1 σ H1 _ I1 q1) fun iv s2 ⟨y, H2, I2, ry, kvs, k, v, ea, ey, l, q2⟩ => Calls.spliced_nil ?_)))
  subst ey
  exact d_pop I2 ea ry l (.inl rfl) fun w' s3 I3 rw' => ⟨v, _, I3, rw', q2⟩
theorem pe_dpop2 (ho : PE X o td) (he : PE X e ty) (hf : PE X f tx) (m : M2 X o "pop" apos e f cpos) : PE X (.Call (.Attribute o "pop" apos) [e, f] [] cpos) (tDPop2 td ty tx) := by
  intro pins s σ H Q I h
  refine wpAny_Call_method m.base m.few m.line PySem.F.plainAttrs_dict PySem.F.slot_dict_pop PySem.F.type_dict_pop (thn (ho pins s σ H _ I h) fun u s1 ⟨x, H1, I1, rx, a, ex, d, q1⟩ => ?_)
  subst ex
  obtain rfl : u = Value.ref a := rx
  obtain ⟨t1, t2, _⟩ := isD_at I1 d
  refine ⟨t1, t2, ?_⟩
  rw [m.trees]
  refine Calls.callWith_builtin rfl (Calls.evalArgs_plain (Calls.spliced_cons (thn (he pins s1 σ H1 _ I1 q1) fun iv s2 ⟨y, H2, I2, ry, q2⟩ =>
    Calls.spliced_cons (thn (hf pins s2 σ H2 _ I2 q2) fun fv s3 ⟨z, H3, I3, rz, kvs, k, ea, ey, q3, q4⟩ => Calls.spliced_nil ?_))))
  subst ey
  cases l : valV kvs k with
  | some v => exact d_pop I3 ea ry l (.inr ⟨fv, rfl⟩) fun w' s4 I4 rw' => ⟨v, _, I4, rw', q3 v l⟩
  | none => exact d_popD I3 ea ry l fun s4 I4 => ⟨z, H3, I4, rz, q4 l⟩
end

/-! ### dict(d): a copy -/
section
variable {X : Cx} {pins : List (Addr × Obj)} {σ : St} {H : Hp} {s : Shared} {a : Addr} {kvs : List (Key × V)} {A : Around} {E : Value → Shared → Prop}
theorem d_copyOf {Q : Value → Shared → Prop} (I : Inv X pins σ H s) (e : Rd H a (.dK kvs)) (h : ∀ p s', H p = none → Inv X pins σ (upd H p (.dK kvs)) s' → Q (.ref p) s') : wpAny (model X.prog X.w) A (call (.type "dict") [.ref a]) Q E s := by
  obtain ⟨z, hd, vs, rel, dd⟩ := dk_rd I.hok e
  refine kt_call_dict hd dd (by rw [← rel.length]; exact z) fun h' dd' hs => ?_
  refine h _ _ (I.hok.fresh (Nat.le_refl _)) (I.laid (a := s.heap.objs.size) (o := .dK kvs) (t' := s.toks) (fun b q hq => ?_) (Nat.le_refl _) (dk_new z (beq_eq_false_iff_ne.mpr (Ne.symm (Nat.ne_of_lt I.big))) rel dd'))
  exact (hs.2 b (Nat.ne_of_lt (Heap.lt_size hq))).trans (Heap.get?_push_of_some _ hq)
end


section
variable {X : Cx} {pins : List (Addr × Obj)} {σ : St} {H : Hp} {s : Shared} {a : Addr} {y : V} {u : Value} {A : Around} {E : Value → Shared → Prop}
/-- d[y], not there: a KeyError -/
theorem d_missing {Q : Value → Shared → Prop} (hu : A.units + 1 < cLine) (hh : A.handled = none) (I : Inv X pins σ H s) (g : DGet H a y none) (ry : RelV y u)
    (h : ∀ h' e t', Heap.NewExc s.heap h' e "KeyError" → E (.ref e) { s with heap := h', toks := t' }) : wpAny (model X.prog X.w) A (getItem (.ref a) u) Q E s := by
  rcases g with ⟨kvs, k, e, ey, l⟩ | ⟨kvs, k, b, e, ey, eb, l⟩
  · subst ey
    obtain ⟨z, hd, vs, rel, dd⟩ := dk_rd I.hok e
    have hn : valueAt vs k = none := RelO.none_of (by rw [l]; exact rel.val k)
    exact wpAny_getItem_missing_of (kV_is ry) hd hh dd.mapOf hn fun h' ex ne => h h' ex _ ne
  · subst ey
    cases (show u = Value.ref b from ry)
    obtain ⟨z, hd, xs, rel, dd⟩ := dt_rd I.hok e
    have hn : (atKey xs k).map (·.2) = none := RelO.none_of (by rw [l]; exact rel.val k)
    exact wpAny_getItem_missing_heap (tupleKind_room_in1 hu) (key_of I.hok eb) hd hh dd (Option.map_eq_none_iff.mp hn) fun h' ex ne => h h' ex _ ne
end
end L2
namespace L2
open PySem PySem.Spec PyProof.Rows
/-! ### a dict's pairs: keys that differ -/
section
variable {κ : Type} [DecidableEq κ]
theorem valV_not {kvs : List (κ × V)} {k : κ} (h : valV kvs k = none) : ¬ k ∈ kvs.map (·.1) := by
  intro m
  obtain ⟨p, hp, e⟩ := List.mem_map.mp m
  have q : (kvs.any fun kv => decide (kv.1 = k)) = true := List.any_eq_true.mpr ⟨p, hp, decide_eq_true e⟩
  rw [valV_any, h] at q
  exact absurd q (by simp)
theorem valV_in {kvs : List (κ × V)} {k : κ} {v : V} (h : valV kvs k = some v) : k ∈ kvs.map (·.1) := by
  have q : (kvs.any fun kv => decide (kv.1 = k)) = true := by
    rw [valV_any, h]
    all_goals rfl
  obtain ⟨p, hp, e⟩ := List.any_eq_true.mp q
  exact List.mem_map.mpr ⟨p, hp, of_decide_eq_true e⟩
theorem nd_snoc : ∀ {l : List κ} {k : κ}, l.Nodup → ¬ k ∈ l → (l ++ [k]).Nodup
  | [], k, _, _ => by simp
  | a :: r, k, h, hk => by
    obtain ⟨h1, h2⟩ := List.nodup_cons.mp h
    show (a :: (r ++ [k])).Nodup
    refine List.nodup_cons.mpr ⟨fun m => ?_, nd_snoc h2 fun m => hk (List.mem_cons.mpr (Or.inr m))⟩
    rcases List.mem_append.mp m with q | q
    · exact h1 q
    · exact hk (List.mem_cons.mpr (Or.inl (List.mem_singleton.mp q).symm))
theorem nd_putK {kvs : List (κ × V)} {k : κ} (v : V) (hn : (kvs.map (·.1)).Nodup) (h : valV kvs k = none) : ((putK kvs k v).map (·.1)).Nodup := by
  rw [putK_new v h, List.map_append]
  exact nd_snoc hn (valV_not h)
theorem dropK_pos {p : κ × V} {r : List (κ × V)} {k : κ} (e : p.1 = k) : dropK (p :: r) k = dropK r k := by
  unfold dropK
  rw [List.filter_cons, if_neg (by simp [e])]
theorem dropK_neg {p : κ × V} {r : List (κ × V)} {k : κ} (e : ¬ p.1 = k) : dropK (p :: r) k = p :: dropK r k := by
  unfold dropK
  rw [List.filter_cons, if_pos (by simp [e])]
theorem dropK_no : ∀ {kvs : List (κ × V)} {k : κ}, ¬ k ∈ kvs.map (·.1) → dropK kvs k = kvs
  | [], _, _ => rfl
  | p :: r, k, h => by
    have h' : ¬ k ∈ r.map (·.1) := fun m => by
      obtain ⟨q, hq, e⟩ := List.mem_map.mp m
      exact h (List.mem_map.mpr ⟨q, List.mem_cons.mpr (Or.inr hq), e⟩)
    rw [dropK_neg fun e => h (List.mem_map.mpr ⟨p, List.mem_cons.mpr (Or.inl rfl), e⟩), dropK_no h']
theorem dropK_mem {kvs : List (κ × V)} {k : κ} {p : κ × V} (h : p ∈ dropK kvs k) : p ∈ kvs := (List.mem_filter.mp h).1
theorem nd_dropK : ∀ {kvs : List (κ × V)} {k : κ}, (kvs.map (·.1)).Nodup → ((dropK kvs k).map (·.1)).Nodup
  | [], _, _ => List.nodup_nil
  | p :: r, k, h => by
    have h : (p.1 :: r.map (·.1)).Nodup := h
    obtain ⟨h1, h2⟩ := List.nodup_cons.mp h
    by_cases e : p.1 = k
    · rw [dropK_pos e]
      exact nd_dropK h2
    · rw [dropK_neg e]
      show (p.1 :: (dropK r k).map (·.1)).Nodup
      refine List.nodup_cons.mpr ⟨fun m => h1 ?_, nd_dropK h2⟩
      obtain ⟨q, hq, eq⟩ := List.mem_map.mp m
      exact List.mem_map.mpr ⟨q, dropK_mem hq, eq⟩
theorem dropK_len : ∀ {kvs : List (κ × V)} {k : κ}, (kvs.map (·.1)).Nodup → k ∈ kvs.map (·.1) → (dropK kvs k).length + 1 = kvs.length
  | [], _, _, m => by simp at m
  | p :: r, k, h, m => by
    have h : (p.1 :: r.map (·.1)).Nodup := h
    have m : k = p.1 ∨ k ∈ r.map (·.1) := List.mem_cons.mp m
    obtain ⟨h1, h2⟩ := List.nodup_cons.mp h
    by_cases e : p.1 = k
    · subst e
      rw [dropK_pos rfl, dropK_no h1]
      all_goals rfl
    · have m' : k ∈ r.map (·.1) := m.resolve_left fun z => e z.symm
      have q := dropK_len h2 m'
      rw [dropK_neg e, List.length_cons, List.length_cons]
      omega
end
end L2

set_option Elab.async false
set_option linter.all false
set_option maxRecDepth 100000
namespace L2
open PySem PySem.Spec PyProof.Rows

/-! ### sizes of ints -/
abbrev bits (i : Int) : Nat := Builtin.Int.intBits i
def CDivB (i j : Int) : Prop := 0 < j ∧ bits j ≤ 9000
theorem log_of_bits {j : Int} {n : Nat} (h : bits j ≤ n) (hn : 0 < n) : j.natAbs.log2 < n := by
  unfold bits Builtin.Int.intBits at h
  by_cases hj : (j == 0) = true
  · have : j = 0 := by simpa using hj
    subst this
    exact Nat.lt_of_le_of_lt (by decide +kernel : (0 : Int).natAbs.log2 ≤ 0) hn
  · rw [if_neg hj] at h
    omega
section
variable {X : Cx}
theorem op_fdivB : OpR X (binaryOp .FloorDiv) (rI CDivB fun i j => .int (i / j)) := opI fun i j _ _ _ _ _ hc q => by
  refine floordiv_int (by have := hc.1; omega) ?_ (.inl (PyProof.noPylong_of_log2 (log_of_bits hc.2 (by decide))))
  rw [Int.fdiv_eq_ediv_of_nonneg i (by have := hc.1; omega)]
  exact q
theorem op_mulB : OpR X (binaryOp .Mult) (rI IntMulOk fun i j => .int (i * j)) := opI fun _ _ _ _ _ _ _ hc q => mul_int q hc
end

/-! ### data: what a value reads as -/
mutual
def Rep (H : Hp) : PyData → V → Prop
  | .none, v => v = .non
  | .bool b, v => v = .bl b
  | .int i, v => v = .int i
  | .str x, v => v = .str x
  | .list ds, v => ∃ a xs, v = .ref a ∧ H a = some (.lst xs) ∧ RepL H ds xs
  | .tuple ds, v => ∃ a xs, v = .ref a ∧ H a = some (.tup xs) ∧ RepL H ds xs
  | .dict kvs, v => kvs = [] ∧ ∃ a, v = .ref a ∧ H a = some (.dK [])
def RepL (H : Hp) : List PyData → List V → Prop
  | [], vs => vs = []
  | d :: ds, vs => ∃ x xs, vs = x :: xs ∧ Rep H d x ∧ RepL H ds xs
end
mutual
theorem Rep.same {H H' : Hp} (e : Same H H') : ∀ {d : PyData} {v : V}, Rep H d v → Rep H' d v
  | .none, _, h => h
  | .bool _, _, h => h
  | .int _, _, h => h
  | .str _, _, h => h
  | .list ds, _, h => by
    unfold Rep at h ⊢
    obtain ⟨a, xs, rfl, h1, h2⟩ := h
    exact ⟨a, xs, rfl, e _ _ h1, RepL.same e h2⟩
  | .tuple ds, _, h => by
    unfold Rep at h ⊢
    obtain ⟨a, xs, rfl, h1, h2⟩ := h
    exact ⟨a, xs, rfl, e _ _ h1, RepL.same e h2⟩
  | .dict kvs, _, h => by
    unfold Rep at h ⊢
    obtain ⟨h0, a, rfl, h1⟩ := h
    exact ⟨h0, a, rfl, e _ _ h1⟩
theorem RepL.same {H H' : Hp} (e : Same H H') : ∀ {ds : List PyData} {vs : List V}, RepL H ds vs → RepL H' ds vs
  | [], _, h => h
  | d :: ds, _, h => by
    unfold RepL at h ⊢
    obtain ⟨x, xs, rfl, h1, h2⟩ := h
    exact ⟨x, xs, rfl, Rep.same e h1, RepL.same e h2⟩
end
theorem Rep.tup {H : Hp} {a : Addr} {xs : List V} {ds : List PyData} (h : H a = some (.tup xs)) (r : RepL H ds xs) : Rep H (.tuple ds) (.ref a) := by
  unfold Rep; exact ⟨a, xs, rfl, h, r⟩
theorem Rep.lst {H : Hp} {a : Addr} {xs : List V} {ds : List PyData} (h : H a = some (.lst xs)) (r : RepL H ds xs) : Rep H (.list ds) (.ref a) := by
  unfold Rep; exact ⟨a, xs, rfl, h, r⟩
theorem Rep.dic {H : Hp} {a : Addr} (h : H a = some (.dK [])) : Rep H (.dict []) (.ref a) := by
  unfold Rep; exact ⟨rfl, a, rfl, h⟩
theorem Rep.int {H : Hp} (i : Int) : Rep H (.int i) (.int i) := by unfold Rep; rfl
theorem Rep.bl {H : Hp} (i : Bool) : Rep H (.bool i) (.bl i) := by unfold Rep; rfl
theorem Rep.str {H : Hp} (i : Str) : Rep H (.str i) (.str i) := by unfold Rep; rfl
theorem Rep.non {H : Hp} : Rep H .none .non := by unfold Rep; rfl
theorem RepL.nil {H : Hp} : RepL H [] [] := by unfold RepL; rfl
theorem RepL.cons {H : Hp} {d : PyData} {ds : List PyData} {x : V} {xs : List V} (h : Rep H d x) (hs : RepL H ds xs) : RepL H (d :: ds) (x :: xs) := by
  unfold RepL; exact ⟨x, xs, rfl, h, hs⟩

section
variable {X : Cx} {pins : List (Addr × Obj)} {σ : St} {H : Hp} {s : Shared}
mutual
theorem Rep.reads (I : Inv X pins σ H s) : ∀ {d : PyData} {v : V} {u : Value}, Rep H d v → RelV v u → ∃ as, Reads s.heap u d as
  | .none, _, u, h, r => by
    cases (show _ = V.non from h); cases (show u = Value.none from r); exact ⟨_, .none⟩
  | .bool b, _, u, h, r => by
    cases (show _ = V.bl b from h); cases (show u = Value.bool b from r); exact ⟨_, .bool b⟩
  | .int b, _, u, h, r => by
    cases (show _ = V.int b from h); obtain ⟨t, q⟩ := (show ∃ t, u = Value.int b t from r); cases q; exact ⟨_, .int b t⟩
  | .str b, _, u, h, r => by
    cases (show _ = V.str b from h); obtain ⟨t, q⟩ := (show ∃ t, u = Value.str b t from r); cases q; exact ⟨_, .str b t⟩
  | .list ds, v, u, h, r => by
    unfold Rep at h
    obtain ⟨a, xs, rfl, h1, h2⟩ := h
    cases (show u = Value.ref a from r)
    obtain ⟨_, its, n, r', e⟩ := (show ObjOk X.prog X.w H s.heap a (.lst xs) from I.hok a _ h1)
    obtain ⟨as, q⟩ := RepL.reads I h2 r'
    exact ⟨_, .list e rfl rfl (by simpa using q)⟩
  | .tuple ds, v, u, h, r => by
    unfold Rep at h
    obtain ⟨a, xs, rfl, h1, h2⟩ := h
    cases (show u = Value.ref a from r)
    obtain ⟨_, its, r', o, e, hc, n, hd⟩ := (show ObjOk X.prog X.w H s.heap a (.tup xs) from I.hok a _ h1)
    obtain ⟨as, q⟩ := RepL.reads I h2 r'
    exact ⟨_, .tuple e hc hd (by simpa using q)⟩
  | .dict kvs, v, u, h, r => by
    unfold Rep at h
    obtain ⟨rfl, a, rfl, h1⟩ := h
    cases (show u = Value.ref a from r)
    obtain ⟨_, _, vs, kv, o, es, ep, e, hx, hd, _, hes, _⟩ := (show ObjOk X.prog X.w H s.heap a (.dK []) from I.hok a _ h1)
    cases kv
    have he : es.toList = [] := by
      cases q : es.toList with
      | nil => rfl
      | cons y ys => rw [q] at hes; cases hes
    exact ⟨_, .dict e hx.1 hd (by rw [he]; exact .nil) (by rw [he]; exact .nil)⟩
theorem RepL.reads (I : Inv X pins σ H s) : ∀ {ds : List PyData} {vs : List V} {us : List Value}, RepL H ds vs → Vals vs us → ∃ as, ReadsAll s.heap us ds as
  | [], _, us, h, r => by
    cases (show _ = [] from h); cases r; exact ⟨_, .nil⟩
  | d :: ds, _, us, h, r => by
    unfold RepL at h
    obtain ⟨x, xs, rfl, h1, h2⟩ := h
    cases r with
    | cons r1 r2 =>
      obtain ⟨as, q1⟩ := Rep.reads I h1 r1
      obtain ⟨bs, q2⟩ := RepL.reads I h2 r2
      exact ⟨_, .cons q1 q2⟩
end
end

/-! ### repr -/
section
variable {X : Cx}
theorem call_repr (hg : X.A.guards = some []) (hu : X.A.units + 64 < cLine) : CallR X (.builtin "repr") (fun xs H Q => ∃ x d, xs = [x] ∧ Rep H d x ∧ d.showable = true ∧ d.hasDict = false ∧ d.depth ≤ 60 ∧ d.shown.length ≤ sizeLine ∧ Q (.str d.shown) H) := by
  intro pins s σ H xs us Q I r h
  obtain ⟨x, d, rfl, hr, hs, hnd, hdp, hz, q⟩ := h
  obtain ⟨u, rfl, ru⟩ := vals1 r
  obtain ⟨as, rd⟩ := hr.reads I ru
  cases rd with
  | none => exact PySem.P.repr_of_none ⟨.str _, H, I.tok _, ⟨_, rfl⟩, q⟩
  | bool b => exact PySem.P.repr_of_bool ⟨.str _, H, I.tok _, ⟨_, rfl⟩, q⟩
  | int i t => exact PySem.P.repr_of_int (by simpa [PyData.showable] using hs) ⟨.str _, H, I.tok _, ⟨_, rfl⟩, q⟩
  | str y t => exact PySem.P.repr_of_str ⟨.str _, H, I.tok _, ⟨_, rfl⟩, q⟩ hz
  | list a1 a2 a3 a4 => exact repr_of_reads' (.list a1 a2 a3 a4) hs (PyData.noDict_hsm hnd) hg (by omega) (fun _ _ e => e) (fun h' u tk hk => ⟨.str _, H, I.kept hk, ⟨_, rfl⟩, q⟩) hz
  | tuple a1 a2 a3 a4 => exact repr_of_reads' (.tuple a1 a2 a3 a4) hs (PyData.noDict_hsm hnd) hg (by omega) (fun _ _ e => e) (fun h' u tk hk => ⟨.str _, H, I.kept hk, ⟨_, rfl⟩, q⟩) hz
  | dict a1 a2 a3 a4 a5 => simp [PyData.hasDict] at hnd
end

/-! ### isinstance of data against a built-in type -/
def tyD : PyData → String
  | .none => "NoneType"
  | .bool _ => "bool"
  | .int _ => "int"
  | .str _ => "str"
  | .list _ => "list"
  | .tuple _ => "tuple"
  | .dict _ => "dict"
theorem Rep.ty {K : PySem.W.Frag} {H : Hp} {d : PyData} {v : V} (h : Rep H d v) : TyOf K H v (.type (tyD d)) := by
  cases d with
  | none => cases (show v = V.non from h); exact .non
  | bool b => cases (show v = V.bl b from h); exact .bl b
  | int b => cases (show v = V.int b from h); exact .int b
  | str b => cases (show v = V.str b from h); exact .str b
  | list ds => unfold Rep at h; obtain ⟨a, xs, rfl, h1, h2⟩ := h; exact .lst h1
  | tuple ds => unfold Rep at h; obtain ⟨a, xs, rfl, h1, h2⟩ := h; exact .tup h1
  | dict ds => unfold Rep at h; obtain ⟨_, a, rfl, h1⟩ := h; exact .dK h1
def isD (T : String) (d : PyData) : Bool := tyD d == T || (T == "int" && tyD d == "bool")
theorem kit_DT : ∀ T ∈ ["int", "bool", "tuple", "str", "list", "dict"], ∀ S ∈ ["NoneType", "bool", "int", "str", "list", "tuple", "dict"],
      PySem.W.kitOne [] (.type S) (.type T) = some (S == T || (T == "int" && S == "bool")) := by decide +kernel
theorem kit_noK (K : PySem.W.Frag) (S T : String) : PySem.W.kitOne K (.type S) (.type T) = PySem.W.kitOne [] (.type S) (.type T) := rfl
theorem kit_D (K : PySem.W.Frag) (d : PyData) (T : String) (hT : T = "int" ∨ T = "bool" ∨ T = "tuple" ∨ T = "str" ∨ T = "list" ∨ T = "dict") : PySem.W.kitOne K (.type (tyD d)) (.type T) = some (isD T d) := by
  rw [kit_noK]
  refine kit_DT T ?_ (tyD d) ?_
  · rcases hT with rfl | rfl | rfl | rfl | rfl | rfl <;> decide
  · cases d <;> simp [tyD]
section
variable {X : Cx}
theorem call_isinst : CallR X (.builtin "isinstance") (fun xs H Q => ∃ x d T, xs = [x, .ty T] ∧ Rep H d x ∧ (T = "int" ∨ T = "bool" ∨ T = "tuple" ∨ T = "str" ∨ T = "list" ∨ T = "dict") ∧ Q (.bl (isD T d)) H) := by
  intro pins s σ H xs us Q I r h
  obtain ⟨x, d, T, rfl, hr, hT, q⟩ := h
  obtain ⟨u, w', rfl, r1, r2⟩ := vals2 r
  cases (show w' = Value.type T from r2)
  exact isinst_ok I r1 hr.ty (kit_D _ d T hT) fun tk => ⟨.bl _, H, I.tok _, rfl, q⟩
end
end L2
namespace L2
open PySem PySem.Spec PyProof.Rows
/-! ### a def that is called by its name -/
structure FnC (CX : CXT) (P : Program) (w : World) (K : PySem.W.Frag) (mg : Str → Option Value) (base : Heap) (k : Nat) (x : Str) (ps : List Str) (sp : Sp) : Prop where
  ex : ∃ (f : Addr) (fd : FuncData), FnOk P w K mg base CX k f fd ps sp ∧ mg x = some (.ref f) ∧ PySem.W.keepIn K (.ref f) = true ∧ Binds K fd ps []
section
variable {X : Cx} {k : Nat} {ps : List Str} {sp : Sp} {x : Str} {p pos : Pos} {e : Expr} {es : List Expr} {t : TA}
theorem pe_fn (F : FnC CX0 X.prog X.w X.K X.mg X.base k x ps sp) (hr : Room k X.A) (ha : PA X (e :: es) t) (hg : Gl X x := by rfl)
    (hdb : (x == ("__debug__" : Str)) = false := by decide) (he : starEach (e :: es) X.env = (false, eval e X.env) :: starEach es X.env := by rfl) (hpl : (backTo pos (starEach es X.env)).any (·.1) = false := by rfl) :
    PE X (.Call (.Name x p) (e :: es) [] pos) (tCall sp [] E0 t) := by
  obtain ⟨f, fd, h1, h2, h3, h4⟩ := F.ex
  exact pe_call h1 hr hg h2 h3 h4 .nil pass0 ha hdb he hpl
theorem pe_fn0 (F : FnC CX0 X.prog X.w X.K X.mg X.base k x ps sp) (hr : Room k X.A) (hg : Gl X x := by rfl)
    (hdb : (x == ("__debug__" : Str)) = false := by decide) :
    PE X (.Call (.Name x p) [] [] pos) (tCall sp [] E0 tNil) := by
  obtain ⟨f, fd, h1, h2, h3, h4⟩ := F.ex
  exact pe_call0 h1 hr hg h2 h3 h4 .nil pass0 hdb
end
/-! ### subscripts, by cases of the heap -/
section
variable {K : PySem.W.Frag} {H : Hp} {p : Addr} {xs : List V} {i : Int} {v : V} {Q : VK}
theorem ixL (h : H p = some (.lst xs)) (e : atI xs i = some v) (q : Q v H) : rIx K (.ref p) (.int i) H Q := .inl ⟨p, xs, i, v, rfl, rfl, SqL.of h, e, q⟩
theorem ixT (h : H p = some (.tup xs)) (e : atI xs i = some v) (q : Q v H) : rIx K (.ref p) (.int i) H Q := .inr (.inl ⟨p, xs, i, v, rfl, rfl, SqT.of h, e, q⟩)
theorem stL {u : V} {Q : Hp → Prop} {j : Nat} (h : H p = some (.lst xs)) (e : ixN xs.length i = some j) (q : Q (upd H p (.lst (xs.set j u)))) : rSetL (.ref p) (.int i) u H Q := ⟨p, xs, i, j, rfl, rfl, h, e, q⟩
theorem lenL {Q : VK} (h : H p = some (.lst xs)) (q : Q (.int xs.length) H) : ∃ x n, [V.ref p] = [x] ∧ LenV K x H n ∧ Q (.int n) H := ⟨_, _, rfl, .inl ⟨xs, SqL.of h, rfl⟩, q⟩
theorem lenT {Q : VK} (h : H p = some (.tup xs)) (q : Q (.int xs.length) H) : ∃ x n, [V.ref p] = [x] ∧ LenV K x H n ∧ Q (.int n) H := ⟨_, _, rfl, .inr ⟨xs, SqT.of h, rfl⟩, q⟩
end
/-! ### all but one address -/
def Hide (p : Addr) (H : Hp) : Hp := fun b => if b = p then none else H b
theorem Hide.at {p b : Addr} {H : Hp} (h : b ≠ p) : Hide p H b = H b := by unfold Hide; rw [if_neg h]
theorem Hide.self {p : Addr} {H : Hp} : Hide p H p = none := by unfold Hide; rw [if_pos rfl]
theorem Hide.same {p : Addr} {H : Hp} : Same (Hide p H) H := fun b o h => by
  unfold Hide at h
  by_cases e : b = p
  · rw [if_pos e] at h; cases h
  · rw [if_neg e] at h; exact h
theorem Hide.ne {p b : Addr} {H : Hp} {o : HO} (h : Hide p H b = some o) : b ≠ p := fun e => by
  subst e; rw [Hide.self] at h; cases h
theorem Hide.of {p b : Addr} {H : Hp} {o : HO} (n : b ≠ p) (h : H b = some o) : Hide p H b = some o := by rw [Hide.at n]; exact h
theorem Hide.upd_ne {p q : Addr} {H : Hp} {o : HO} (h : q ≠ p) : Hide p (upd H q o) = upd (Hide p H) q o := by
  funext b
  by_cases e : b = p
  · subst e; rw [Hide.self, L2.upd_ne (Ne.symm h), Hide.self]
  · rw [Hide.at e]
    by_cases e2 : b = q
    · subst e2; rw [upd_same, upd_same]
    · rw [L2.upd_ne e2, L2.upd_ne e2, Hide.at e]
theorem Hide.upd_self {p : Addr} {H : Hp} {o : HO} : Hide p (upd H p o) = Hide p H := by
  funext b
  by_cases e : b = p
  · subst e; rw [Hide.self, Hide.self]
  · rw [Hide.at e, Hide.at e, L2.upd_ne e]
abbrev SameBut (p : Addr) (H H' : Hp) : Prop := Same (Hide p H) (Hide p H')
theorem Same.but {p : Addr} {H H' : Hp} (h : Same H H') : SameBut p H H' := fun b o e => by
  have n := Hide.ne e
  exact Hide.of n (h _ _ (Hide.same _ _ e))
theorem Same.upd {H : Hp} {q : Addr} {o : HO} (h : H q = none) : Same H (upd H q o) := fun b u e => by
  rw [L2.upd_ne (ne_of_none e h)]; exact e
theorem SameBut.self {p : Addr} {H : Hp} {o : HO} : SameBut p H (upd H p o) := by unfold SameBut; rw [Hide.upd_self]; exact Same.refl _
/-- not tracked now, not tracked ahead -/
theorem SameBut.free {p q : Addr} {H H' : Hp} (e : SameBut p H H') (hp : ∃ o, H' p = some o) (h : H' q = none) : H q = none := by
  cases k : H q with
  | none => rfl
  | some o =>
    by_cases n : q = p
    · subst n; obtain ⟨o', h'⟩ := hp; rw [h'] at h; cases h
    · have := Hide.same _ _ (e q o (Hide.of n k)); rw [this] at h; cases h
end L2
namespace L2
open PySem PySem.Spec PyProof.Rows
section
variable {K : PySem.W.Frag} {H : Hp} {p : Addr} {xs : List V} {i : Int} {v : V} {Q : VK}
theorem stG {u : V} {Q : Hp → Prop} {j : Nat} (h : H p = some (.lst xs)) (e : ixN xs.length i = some j) (k : ∀ H', H' p = some (.lst (xs.set j u)) → SameBut p H H' → Q H') : rSetL (.ref p) (.int i) u H Q :=
  stL h e (k _ upd_same SameBut.self)
theorem alT {Q : V → Hp → Prop} (hz : xs.length ≤ sizeLine) (k : ∀ q H', H q = none → H' q = some (.tup xs) → Same H H' → Q (.ref q) H') : xs.length ≤ sizeLine ∧ ∀ p, H p = none → Q (.ref p) (upd H p (.tup xs)) :=
  ⟨hz, fun q hq => k q _ hq upd_same (Same.upd hq)⟩
theorem alL {Q : V → Hp → Prop} (hz : xs.length ≤ sizeLine) (k : ∀ q H', H q = none → H' q = some (.lst xs) → Same H H' → Q (.ref q) H') : xs.length ≤ sizeLine ∧ ∀ p, H p = none → Q (.ref p) (upd H p (.lst xs)) :=
  ⟨hz, fun q hq => k q _ hq upd_same (Same.upd hq)⟩
theorem alD {Q : V → Hp → Prop} (k : ∀ q H', H q = none → H' q = some (.dK []) → Same H H' → Q (.ref q) H') : ∀ p, H p = none → Q (.ref p) (upd H p (.dK [])) :=
  fun q hq => k q _ hq upd_same (Same.upd hq)
theorem SameBut.at {p b : Addr} {H H' : Hp} {o : HO} (s : SameBut p H H') (n : b ≠ p) (h : H b = some o) : H' b = some o := Hide.same _ _ (s _ _ (Hide.of n h))
end
theorem small64 {n : Nat} (h : n ≤ 64) : n ≤ sizeLine := Nat.le_trans h (by decide)
theorem iteD {c A B : Prop} [Decidable c] (h1 : c → A) (h2 : ¬ c → B) : if decide c = true then A else B :=
  ite2 (fun h => h1 (of_decide_eq_true h)) (fun h => h2 (fun k => h (decide_eq_true k)))
theorem iteDN {c A B : Prop} [Decidable c] (h1 : ¬ c → A) (h2 : c → B) : if (!decide c) = true then A else B :=
  ite2 (fun h => h1 (fun k => by rw [decide_eq_true k] at h; exact absurd h (by decide))) (fun h => h2 (Decidable.of_not_not fun k => h (by rw [decide_eq_false k]; rfl)))
end L2
namespace L2
open PySem PySem.Spec PyProof.Rows
/-! ### while, by a word with its measure -/
def tMono (c : TT) : TT := fun σ H Q => ∃ Q' : Bool → Hp → Prop, c σ H Q' ∧ ∀ b H1, Q' b H1 → Q b H1
theorem PT.mono {X : Cx} {e : Expr} {c : TT} (h : PT X e c) : PT X e (tMono c) := fun pins s σ H Q I ⟨Q', h1, h2⟩ =>
  thn (h pins s σ H Q' I h1) fun b s' ⟨H', I', q⟩ => ⟨H', I', h2 _ _ q⟩
theorem ps_whileM {X : Cx} {pos : Pos} {c : Expr} {body : List Stmt} {tc : TT} {tb : TS} (hp : PassesOwn (model X.prog X.w) X.A X.env X.xe) (hc : PT X c tc) (hb : PSs X body tb) : PS X (.While c body [] pos) (tWhile (tMono tc) tb) :=
  ps_while hp hc.mono hb
theorem while_m {c : TT} {tb : TS} {D : Ends} {σ : St} {H : Hp} (W : Nat → St → Hp → Prop) (m : Nat) (h0 : W m σ H)
    (hs : ∀ m σ H, W m σ H → c σ H fun b H1 => if b = true then tb { D with nx := fun σ' H' => ∃ m', m' < m ∧ W m' σ' H', ct := fun σ' H' => ∃ m', m' < m ∧ W m' σ' H', bk := D.nx } σ H1 else D.nx σ H1) :
    tWhile (tMono c) tb D σ H :=
  ⟨W, ⟨m, h0⟩, fun m σ H hw => ⟨_, hs m σ H hw, fun b H1 q => by
    by_cases hb : b = true
    · rw [if_pos hb] at q ⊢
      exact ⟨_, fun _ _ h => h, q⟩
    · rw [if_neg hb] at q ⊢
      exact q⟩⟩
end L2
namespace L2
open PySem PySem.Spec PyProof.Rows
/-! ### named readings of calls -/
@[irreducible] def rLen (K : PySem.W.Frag) : List V → Hp → VK → Prop := fun xs H Q => ∃ x n, xs = [x] ∧ LenV K x H n ∧ Q (.int n) H
@[irreducible] def rAbs : List V → Hp → VK → Prop := fun xs H Q => ∃ i, xs = [.int i] ∧ Q (.int (i.natAbs : Int)) H
@[irreducible] def rIsi : List V → Hp → VK → Prop := fun xs H Q => ∃ x d T, xs = [x, .ty T] ∧ Rep H d x ∧ (T = "int" ∨ T = "bool" ∨ T = "tuple" ∨ T = "str" ∨ T = "list" ∨ T = "dict") ∧ Q (.bl (isD T d)) H
@[irreducible] def rRepr : List V → Hp → VK → Prop := fun xs H Q => ∃ x d, xs = [x] ∧ Rep H d x ∧ d.showable = true ∧ d.hasDict = false ∧ d.depth ≤ 60 ∧ d.shown.length ≤ sizeLine ∧ Q (.str d.shown) H
section
variable {X : Cx} {K : PySem.W.Frag} {H : Hp} {p : Addr} {xs : List V} {Q : VK}
theorem cl_len : CallR X (.builtin "len") (rLen X.K) := by unfold rLen; exact call_len
theorem cl_abs : CallR X (.builtin "abs") rAbs := by
  unfold rAbs
  exact fun pins s σ H xs us Q I r ⟨i, e, q⟩ => call_abs pins s σ H xs us Q I r ⟨i, e, by
  have : (if i < 0 then -i else i) = (i.natAbs : Int) := by split <;> omega
  rw [this]; exact q⟩
theorem cl_isi : CallR X (.builtin "isinstance") rIsi := by unfold rIsi; exact call_isinst
theorem cl_repr (hg : X.A.guards = some []) (hu : X.A.units + 64 < cLine) : CallR X (.builtin "repr") rRepr := by unfold rRepr; exact call_repr hg hu
theorem rlL (h : H p = some (.lst xs)) (q : Q (.int xs.length) H) : rLen K [V.ref p] H Q := by unfold rLen; exact ⟨_, _, rfl, .inl ⟨xs, SqL.of h, rfl⟩, q⟩
theorem rlT (h : H p = some (.tup xs)) (q : Q (.int xs.length) H) : rLen K [V.ref p] H Q := by unfold rLen; exact ⟨_, _, rfl, .inr ⟨xs, SqT.of h, rfl⟩, q⟩
theorem raI {i : Int} (q : Q (.int (i.natAbs : Int)) H) : rAbs [V.int i] H Q := by unfold rAbs; exact ⟨i, rfl, q⟩
theorem rrI {x : V} {d : PyData} (r : Rep H d x) (h1 : d.showable = true) (h2 : d.hasDict = false) (h3 : d.depth ≤ 60) (h4 : d.shown.length ≤ sizeLine) (q : Q (.str d.shown) H) : rRepr [x] H Q := by unfold rRepr; exact ⟨x, d, rfl, r, h1, h2, h3, h4, q⟩
theorem riI {x : V} {d : PyData} {T : String} (r : Rep H d x) (q : Q (.bl (isD T d)) H) (hT : (T = "int" ∨ T = "bool" ∨ T = "tuple" ∨ T = "str" ∨ T = "list" ∨ T = "dict") := by decide) : rIsi [x, .ty T] H Q := by unfold rIsi; exact ⟨x, d, T, rfl, r, hT, q⟩
end
end L2
namespace L2
open PySem PySem.Spec PyProof.Rows
/-- .. with a word R for the state behind the loop (no break) -/
theorem while_r {c : TT} {tb : TS} {D : Ends} {σ : St} {H : Hp} (W : Nat → St → Hp → Prop) (R : St → Hp → Prop) (m : Nat) (h0 : W m σ H)
    (hs : ∀ m σ H, W m σ H → c σ H fun b H1 => if b = true then tb { D with nx := fun σ' H' => ∃ m', m' < m ∧ W m' σ' H', ct := fun σ' H' => ∃ m', m' < m ∧ W m' σ' H', bk := D.nx } σ H1 else R σ H1)
    (hd : ∀ σ H, R σ H → D.nx σ H) : tWhile (tMono c) tb D σ H :=
  ⟨W, ⟨m, h0⟩, fun m σ H hw => ⟨_, hs m σ H hw, fun b H1 q => by
    by_cases hb : b = true
    · rw [if_pos hb] at q ⊢
      exact ⟨_, fun _ _ h => h, q⟩
    · rw [if_neg hb] at q ⊢
      exact hd _ _ q⟩⟩
end L2
namespace L2
open PySem PySem.Spec PyProof.Rows
/-- a word between a statement and what follows it -/
def tCut (t : TS) : TS := fun D σ H => ∃ R : St → Hp → Prop, (∀ σ' H', R σ' H' → D.nx σ' H') ∧ t { D with nx := R } σ H
theorem ps_cut {X : Cx} {st : Stmt} {t : TS} (h : PS X st t) : PS X st (tCut t) := fun pins s σ H D I ⟨R, hR, q⟩ =>
  thn (h pins s σ H _ I q) fun f s' z => by
    cases f with
    | next => obtain ⟨σ', H', I', r⟩ := z; exact ⟨σ', H', I', hR _ _ r⟩
    | brk => exact z
    | cont => exact z
    | ret u => exact z
end L2

namespace L2
open PySem PySem.Spec PyProof.Rows
/-! ### no star among arguments: by the head alone -/
section
variable {es : List Expr} {env : Env}
theorem se_BoolOp {a b c} : starEach (.BoolOp a b c :: es) env = (false, eval (.BoolOp a b c) env) :: starEach es env := by rw [starEach] <;> (intros; contradiction)
theorem se_BinOp {a b c d} : starEach (.BinOp a b c d :: es) env = (false, eval (.BinOp a b c d) env) :: starEach es env := by rw [starEach] <;> (intros; contradiction)
theorem se_UnaryOp {a b c} : starEach (.UnaryOp a b c :: es) env = (false, eval (.UnaryOp a b c) env) :: starEach es env := by rw [starEach] <;> (intros; contradiction)
theorem se_IfExp {a b c d} : starEach (.IfExp a b c d :: es) env = (false, eval (.IfExp a b c d) env) :: starEach es env := by rw [starEach] <;> (intros; contradiction)
theorem se_Dict {a b c} : starEach (.Dict a b c :: es) env = (false, eval (.Dict a b c) env) :: starEach es env := by rw [starEach] <;> (intros; contradiction)
theorem se_ListComp {a b c d} : starEach (.ListComp a b c d :: es) env = (false, eval (.ListComp a b c d) env) :: starEach es env := by rw [starEach] <;> (intros; contradiction)
theorem se_Compare {a b c d} : starEach (.Compare a b c d :: es) env = (false, eval (.Compare a b c d) env) :: starEach es env := by rw [starEach] <;> (intros; contradiction)
theorem se_Call {a b c d} : starEach (.Call a b c d :: es) env = (false, eval (.Call a b c d) env) :: starEach es env := by rw [starEach] <;> (intros; contradiction)
theorem se_Constant {a b c} : starEach (.Constant a b c :: es) env = (false, eval (.Constant a b c) env) :: starEach es env := by rw [starEach] <;> (intros; contradiction)
theorem se_Attribute {a b c} : starEach (.Attribute a b c :: es) env = (false, eval (.Attribute a b c) env) :: starEach es env := by rw [starEach] <;> (intros; contradiction)
theorem se_Subscript {a b c} : starEach (.Subscript a b c :: es) env = (false, eval (.Subscript a b c) env) :: starEach es env := by rw [starEach] <;> (intros; contradiction)
theorem se_Name {a b} : starEach (.Name a b :: es) env = (false, eval (.Name a b) env) :: starEach es env := by rw [starEach] <;> (intros; contradiction)
theorem se_List {a b} : starEach (.List a b :: es) env = (false, eval (.List a b) env) :: starEach es env := by rw [starEach] <;> (intros; contradiction)
theorem se_Tuple {a b c} : starEach (.Tuple a b c :: es) env = (false, eval (.Tuple a b c) env) :: starEach es env := by rw [starEach] <;> (intros; contradiction)
theorem se_JoinedStr {a b} : starEach (.JoinedStr a b :: es) env = (false, eval (.JoinedStr a b) env) :: starEach es env := by rw [starEach] <;> (intros; contradiction)
theorem se_GeneratorExp {a b c d} : starEach (.GeneratorExp a b c d :: es) env = (false, eval (.GeneratorExp a b c d) env) :: starEach es env := by rw [starEach] <;> (intros; contradiction)
end
section
variable {X : Cx} {k : Nat} {ps : List Str} {sp : Sp} {x : Str} {p pos : Pos} {e : Expr} {es : List Expr} {te : TE} {t : TA} {id T : String} {r : List V → Hp → VK → Prop}
theorem ap_nil {env : Env} : (backTo pos (starEach [] env)).any (·.1) = false := rfl
theorem ap_cons {env : Env} (hs : starEach (e :: es) env = (false, eval e env) :: starEach es env) (h : (backTo pos (starEach es env)).any (·.1) = false) : (backTo pos (starEach (e :: es) env)).any (·.1) = false := by
  rw [hs]
  show (false || (backTo pos (starEach es env)).any (·.1)) = false
  rw [h]; rfl
theorem pa_k (ha : PE X e te) (hr : PA X es t) (hs : starEach (e :: es) X.env = (false, eval e X.env) :: starEach es X.env := by first | exact se_Name | exact se_Constant | exact se_BoolOp | exact se_BinOp | exact se_UnaryOp | exact se_IfExp | exact se_Dict | exact se_ListComp | exact se_Compare | exact se_Call | exact se_Attribute | exact se_Subscript | exact se_List | exact se_Tuple | exact se_JoinedStr | exact se_GeneratorExp) : PA X (e :: es) (tCons te t) := pa_cons ha hr hs
theorem pe_fk (F : FnC CX0 X.prog X.w X.K X.mg X.base k x ps sp) (hr : Room k X.A) (ha : PA X (e :: es) t) (hg : Gl X x := by rfl)
    (hdb : (x == ("__debug__" : Str)) = false := by decide) (he : starEach (e :: es) X.env = (false, eval e X.env) :: starEach es X.env := by first | exact se_Name | exact se_Constant | exact se_BoolOp | exact se_BinOp | exact se_UnaryOp | exact se_IfExp | exact se_Dict | exact se_ListComp | exact se_Compare | exact se_Call | exact se_Attribute | exact se_Subscript | exact se_List | exact se_Tuple | exact se_JoinedStr | exact se_GeneratorExp)
    (hpl : (backTo pos (starEach es X.env)).any (·.1) = false := by repeat (first | exact ap_nil | refine ap_cons (by first | exact se_Name | exact se_Constant | exact se_BoolOp | exact se_BinOp | exact se_UnaryOp | exact se_IfExp | exact se_Dict | exact se_ListComp | exact se_Compare | exact se_Call | exact se_Attribute | exact se_Subscript | exact se_List | exact se_Tuple | exact se_JoinedStr | exact se_GeneratorExp) ?_)) :
    PE X (.Call (.Name x p) (e :: es) [] pos) (tCall sp [] E0 t) := pe_fn F hr ha hg hdb he hpl
theorem pe_cB (hc : CallR X (.builtin id) r) (hg : Gl X x) (hm : X.mg x = none) (hv : bootBuiltins x = some (.builtin id)) (ha : PA X (e :: es) t) (hn : x ≠ "__name__" := by decide) (hdb : (x == ("__debug__" : Str)) = false := by decide)
    (he : starEach (e :: es) X.env = (false, eval e X.env) :: starEach es X.env := by first | exact se_Name | exact se_Constant | exact se_BoolOp | exact se_BinOp | exact se_UnaryOp | exact se_IfExp | exact se_Dict | exact se_ListComp | exact se_Compare | exact se_Call | exact se_Attribute | exact se_Subscript | exact se_List | exact se_Tuple | exact se_JoinedStr | exact se_GeneratorExp) (hpl : (backTo pos (starEach es X.env)).any (·.1) = false := by repeat (first | exact ap_nil | refine ap_cons (by first | exact se_Name | exact se_Constant | exact se_BoolOp | exact se_BinOp | exact se_UnaryOp | exact se_IfExp | exact se_Dict | exact se_ListComp | exact se_Compare | exact se_Call | exact se_Attribute | exact se_Subscript | exact se_List | exact se_Tuple | exact se_JoinedStr | exact se_GeneratorExp) ?_)) : PE X (.Call (.Name x p) (e :: es) [] pos) (tCB r t) :=
  pe_callB hc hg hm hv ha hn hdb he hpl
theorem pe_cT (hc : CallR X (.type T) r) (hg : Gl X x) (hm : X.mg x = none) (hv : bootBuiltins x = some (.type T)) (ha : PA X (e :: es) t) (hn : x ≠ "__name__" := by decide) (hdb : (x == ("__debug__" : Str)) = false := by decide)
    (he : starEach (e :: es) X.env = (false, eval e X.env) :: starEach es X.env := by first | exact se_Name | exact se_Constant | exact se_BoolOp | exact se_BinOp | exact se_UnaryOp | exact se_IfExp | exact se_Dict | exact se_ListComp | exact se_Compare | exact se_Call | exact se_Attribute | exact se_Subscript | exact se_List | exact se_Tuple | exact se_JoinedStr | exact se_GeneratorExp) (hpl : (backTo pos (starEach es X.env)).any (·.1) = false := by repeat (first | exact ap_nil | refine ap_cons (by first | exact se_Name | exact se_Constant | exact se_BoolOp | exact se_BinOp | exact se_UnaryOp | exact se_IfExp | exact se_Dict | exact se_ListComp | exact se_Compare | exact se_Call | exact se_Attribute | exact se_Subscript | exact se_List | exact se_Tuple | exact se_JoinedStr | exact se_GeneratorExp) ?_)) : PE X (.Call (.Name x p) (e :: es) [] pos) (tCB r t) :=
  pe_callTy hc hg hm hv ha hn hdb he hpl
end
end L2

set_option Elab.async false
set_option linter.all false
set_option maxRecDepth 100000
namespace L2
open PySem PySem.Spec PyProof.Rows
/-! ### the judgements, shut: so that no elaboration looks into them -/
structure PEw (X : Cx) (e : Expr) (t : TE) : Prop where p : PE X e t
structure PTw (X : Cx) (e : Expr) (t : TT) : Prop where p : PT X e t
structure PWw (X : Cx) (e : Expr) (t : TT) : Prop where p : PW X e t
structure PAw (X : Cx) (es : List Expr) (t : TA) : Prop where p : PA X es t
structure PSw (X : Cx) (st : Stmt) (t : TS) : Prop where p : PS X st t
structure PSsw (X : Cx) (st : List Stmt) (t : TS) : Prop where p : PSs X st t
structure PGw (X : Cx) (e : Expr) (t : TG) : Prop where p : PG X e t
structure PGsw (X : Cx) (es : List Expr) (t : TGs) : Prop where p : PGs X es t
structure PIw (X : Cx) (tg iter : Expr) (t : TI) : Prop where p : PI X tg iter t
structure POw (X : Cx) (e : Option Expr) (t : TO) : Prop where p : PO X e t
/-! new tuples and lists -/
@[irreducible] def rNewT (xs : List V) (H : Hp) (Q : VK) : Prop := xs.length ≤ sizeLine ∧ ∀ p, H p = none → Q (.ref p) (upd H p (.tup xs))
@[irreducible] def rNewL (xs : List V) (H : Hp) (Q : VK) : Prop := xs.length ≤ sizeLine ∧ ∀ p, H p = none → Q (.ref p) (upd H p (.lst xs))
theorem nwT {xs : List V} {H : Hp} {Q : VK} (hz : xs.length ≤ 64) (k : ∀ q H', H q = none → H' q = some (.tup xs) → Same H H' → Q (.ref q) H') : rNewT xs H Q := by unfold rNewT; exact alT (small64 hz) k
theorem nwL {xs : List V} {H : Hp} {Q : VK} (hz : xs.length ≤ 64) (k : ∀ q H', H q = none → H' q = some (.lst xs) → Same H H' → Q (.ref q) H') : rNewL xs H Q := by unfold rNewL; exact alL (small64 hz) k
def tTu (t : TA) : TE := fun σ H Q => t σ H fun xs H1 => rNewT xs H1 Q
def tLs (t : TA) : TE := fun σ H Q => t σ H fun xs H1 => rNewL xs H1 Q
theorem oSeq {ts us : TS} {D : Ends} {σ : St} {H : Hp} (h : ts { D with nx := us D } σ H) : tSeq ts us D σ H := h
theorem oAsg {te : TE} {g : TG} {D : Ends} {σ : St} {H : Hp} (h : te σ H fun x H1 => g x σ H1 D.nx) : tAsg te g D σ H := h
theorem oOp {r : R2} {ta tb : TE} {σ : St} {H : Hp} {Q : VK} (h : ta σ H fun x H1 => tb σ H1 fun y H2 => r x y H2 Q) : tOp r ta tb σ H Q := h
theorem oRet {te : TE} {D : Ends} {σ : St} {H : Hp} (h : te σ H D.rt) : tRet te D σ H := h
section
variable {X : Cx} {a b c e o tg : Expr} {es rest : List Expr} {ta tb tc te to : TE} {tA tB' : TT} {t : TA} {pos p p2 : Pos} {st : Stmt} {sts body orelse : List Stmt} {ts us : TS} {x : Str} {r r' : R2} {id T : String} {rl : List V → Hp → VK → Prop} {k i j : Nat} {ps : List Str} {sp : Sp} {n : Nat}
theorem we_v (i : Nat) {x : Str} {pos : Pos} (hN : X.N[i]? = some x := by rfl) (hv : Vis X.env.scope x := by first | exact Or.inl rfl | exact Or.inr (Or.inl rfl) | exact Or.inr (Or.inr rfl)) (hd : (x == ("__debug__" : Str)) = false := by decide)
    (hcd : (x == ("__classdict__" : Str)) = false := by decide) : PEw X (.Name x pos) (tVar i) := ⟨pv i hN hv hd hcd⟩
theorem we_int {i j pos} : PEw X (.Constant (.int i) j pos) (tC (.int i)) := ⟨pe_int⟩
theorem we_bl {b j pos} : PEw X (.Constant (.bool b) j pos) (tC (.bl b)) := ⟨pe_bl⟩
theorem we_non {j pos} : PEw X (.Constant .none j pos) (tC .non) := ⟨pe_non⟩
theorem we_str {x j pos} : PEw X (.Constant (.str x) j pos) (tC (.str x)) := ⟨pe_str⟩
theorem we_glob {v : V} {u : Value} (hg : Gl X x) (hm : X.mg x = some u) (r : RelV v u) (hd : (x == ("__debug__" : Str)) = false := by decide) : PEw X (.Name x pos) (tC v) := ⟨pe_glob hg hm r hd⟩
theorem we_bltn {v : V} {u : Value} (hg : Gl X x) (hm : X.mg x = none) (hv : bootBuiltins x = some u) (r : RelV v u) (hn : x ≠ "__name__" := by decide) (hd : (x == ("__debug__" : Str)) = false := by decide) : PEw X (.Name x pos) (tC v) := ⟨pe_bltn hg hm hv r hn hd⟩
theorem we_op {op : Operator} (ho : OpR X (binaryOp op) r) (ha : PEw X a ta) (hb : PEw X b tb) : PEw X (.BinOp a op b pos) (tOp r ta tb) := ⟨pe_op ho ha.p hb.p⟩
theorem we_un {op : UnaryOp} {r : V → Hp → VK → Prop} (ho : UnR X (unaryOp op) r) (ha : PEw X a ta) : PEw X (.UnaryOp op a pos) (tUn r ta) := ⟨pe_un ho ha.p⟩
theorem we_cmp {op : CmpOp} (ho : OpR X (compareOp op) r) (ha : PEw X a ta) (hb : PEw X b tb) (hm : behindInMarks op b = false) : PEw X (.Compare a [op] [b] pos) (tOp r ta tb) := ⟨pe_cmpR ho ha.p hb.p hm⟩
theorem wt_cmp {op : CmpOp} (ho : OpR X (compareOp op) r) (ha : PEw X a ta) (hb : PEw X b tb) (hm : behindInMarks op b = false) : PTw X (.Compare a [op] [b] pos) (tTest (tOp r ta tb)) := ⟨pt_cmpR ho ha.p hb.p hm⟩
theorem we_chain {op op' : CmpOp} (ho : OpR X (compareOp op) r) (ho' : OpR X (compareOp op') r') (ha : PEw X a ta) (hb : PEw X b tb) (hc : PEw X c tc)
    (hm : lastMarks [op, op'] [b, c] = false := by with_unfolding_all rfl) : PEw X (.Compare a [op, op'] [b, c] pos) (tChain r r' ta tb tc) := ⟨pe_chain ho ho' ha.p hb.p hc.p hm⟩
theorem wt_chain {op op' : CmpOp} (ho : OpR X (compareOp op) r) (ho' : OpR X (compareOp op') r') (ha : PEw X a ta) (hb : PEw X b tb) (hc : PEw X c tc)
    (hm : lastMarks [op, op'] [b, c] = false := by with_unfolding_all rfl) : PTw X (.Compare a [op, op'] [b, c] pos) (tTest (tChain r r' ta tb tc)) := ⟨pt_chain ho ho' ha.p hb.p hc.p hm⟩
theorem wt_val (h : PEw X e te) (he : ∀ whole, isTrue e X.env whole = (do let v ← whole; standAt e.pos; holding [v] (truthy v)) := by intro _; rfl) : PTw X e (tB te) := ⟨pt_val h.p he⟩
theorem wt_truth (ha : PEw X a ta) (he : ∀ whole, isTrue a X.env whole = (do let v ← whole; standAt a.pos; holding [v] (truthy v)) := by intro _; rfl) :
    PTw X a (fun σ H Q => ta σ H fun x H' => ∃ k, TruV X.K x H' k ∧ Q k H') := ⟨pt_truth ha.p he⟩
theorem ww_and1 (ha : PTw X a tA) : PWw X (.BoolOp .And [a] pos) tA := ⟨pw_and1 ha.p⟩
theorem ww_or1 (ha : PTw X a tA) : PWw X (.BoolOp .Or [a] pos) tA := ⟨pw_or1 ha.p⟩
theorem ww_and (ha : PTw X a tA) (hb : PWw X (.BoolOp .And (b :: rest) pos) tB') : PWw X (.BoolOp .And (a :: b :: rest) pos) (tAnd tA tB') := ⟨pw_and ha.p hb.p⟩
theorem ww_or (ha : PTw X a tA) (hb : PWw X (.BoolOp .Or (b :: rest) pos) tB') : PWw X (.BoolOp .Or (a :: b :: rest) pos) (tOr tA tB') := ⟨pw_or ha.p hb.p⟩
theorem wt_w (h : PWw X e tA) : PTw X e tA := ⟨h.p.pt⟩
theorem wt_not (ha : PTw X a tA) : PTw X (.UnaryOp .Not a pos) (tNot tA) := ⟨pt_not ha.p⟩
theorem we_one {op} (h : PEw X a ta) : PEw X (.BoolOp op [a] pos) ta := ⟨pe_one h.p⟩
theorem we_and (ha : PEw X a ta) (hb : PEw X (.BoolOp .And (b :: rest) pos) tb) : PEw X (.BoolOp .And (a :: b :: rest) pos) (tAndV ta tb) := ⟨pe_and ha.p hb.p⟩
theorem we_or (ha : PEw X a ta) (hb : PEw X (.BoolOp .Or (b :: rest) pos) tb) : PEw X (.BoolOp .Or (a :: b :: rest) pos) (tOrV ta tb) := ⟨pe_or ha.p hb.p⟩
theorem we_not (ha : PEw X a ta) : PEw X (.UnaryOp .Not a pos) (tNotV ta) := ⟨pe_not ha.p⟩
theorem we_ifExp (hc : PTw X c tA) (ha : PEw X a ta) (hb : PEw X b tb) : PEw X (.IfExp c a b pos) (tIf tA ta tb) := ⟨pe_ifExp hc.p ha.p hb.p⟩
theorem wa_nil : PAw X [] tNil := ⟨pa_nil⟩
theorem wa_k (ha : PEw X e te) (hr : PAw X es t) (hs : starEach (e :: es) X.env = (false, eval e X.env) :: starEach es X.env := by first | exact se_Name | exact se_Constant | exact se_BoolOp | exact se_BinOp | exact se_UnaryOp | exact se_IfExp | exact se_Dict | exact se_ListComp | exact se_Compare | exact se_Call | exact se_Attribute | exact se_Subscript | exact se_List | exact se_Tuple | exact se_JoinedStr | exact se_GeneratorExp) : PAw X (e :: es) (tCons te t) := ⟨pa_cons ha.p hr.p hs⟩
theorem we_tup {x1} (h : PAw X es t) : PEw X (.Tuple es x1 pos) (tTu t) := ⟨by unfold tTu rNewT; exact pe_tup h.p⟩
theorem we_lst (h : PAw X es t) : PEw X (.List es pos) (tLs t) := ⟨by unfold tLs rNewL; exact pe_lst h.p⟩
theorem we_dnewK : PEw X (.Dict [] [] pos) tDNewK := ⟨pe_dnewK⟩
theorem we_dnewT : PEw X (.Dict [] [] pos) tDNewT := ⟨pe_dnewT⟩
theorem we_ix (hr : IxR X r) (ha : PEw X a ta) (hb : PEw X b tb) (hs : PlainIx b) : PEw X (.Subscript a b pos) (tOp r ta tb) := ⟨pe_ix hr ha.p hb.p hs⟩
theorem wo_none : POw X none tNoPart := ⟨po_none⟩
theorem wo_some (h : PEw X e te) : POw X (some e) (tPart te) := ⟨po_some h.p⟩
theorem we_slice {lo hi : Option Expr} {tl th : TO} {r : V → Option Int → Option Int → Hp → VK → Prop} (hr : SlR X r) (he : PEw X e te) (hl : POw X lo tl) (hu : POw X hi th) : PEw X (.Subscript e (.Slice lo hi none p2) pos) (tSl r te tl th) := ⟨pe_slice hr he.p hl.p hu.p⟩
theorem we_fn (F : FnC CX0 X.prog X.w X.K X.mg X.base k x ps sp) (hr : Room k X.A) (ha : PAw X (e :: es) t) (hg : Gl X x := by rfl)
    (hdb : (x == ("__debug__" : Str)) = false := by decide) (he : starEach (e :: es) X.env = (false, eval e X.env) :: starEach es X.env := by first | exact se_Name | exact se_Constant | exact se_BoolOp | exact se_BinOp | exact se_UnaryOp | exact se_IfExp | exact se_Dict | exact se_ListComp | exact se_Compare | exact se_Call | exact se_Attribute | exact se_Subscript | exact se_List | exact se_Tuple | exact se_JoinedStr | exact se_GeneratorExp)
    (hpl : (backTo pos (starEach es X.env)).any (·.1) = false := by repeat (first | exact ap_nil | refine ap_cons (by first | exact se_Name | exact se_Constant | exact se_BoolOp | exact se_BinOp | exact se_UnaryOp | exact se_IfExp | exact se_Dict | exact se_ListComp | exact se_Compare | exact se_Call | exact se_Attribute | exact se_Subscript | exact se_List | exact se_Tuple | exact se_JoinedStr | exact se_GeneratorExp) ?_)) :
    PEw X (.Call (.Name x p) (e :: es) [] pos) (tCall sp [] E0 t) := ⟨pe_fn F hr ha.p hg hdb he hpl⟩
theorem we_cB (hc : CallR X (.builtin id) rl) (hg : Gl X x) (hm : X.mg x = none) (hv : bootBuiltins x = some (.builtin id)) (ha : PAw X (e :: es) t) (hn : x ≠ "__name__" := by decide) (hdb : (x == ("__debug__" : Str)) = false := by decide)
    (he : starEach (e :: es) X.env = (false, eval e X.env) :: starEach es X.env := by first | exact se_Name | exact se_Constant | exact se_BoolOp | exact se_BinOp | exact se_UnaryOp | exact se_IfExp | exact se_Dict | exact se_ListComp | exact se_Compare | exact se_Call | exact se_Attribute | exact se_Subscript | exact se_List | exact se_Tuple | exact se_JoinedStr | exact se_GeneratorExp) (hpl : (backTo pos (starEach es X.env)).any (·.1) = false := by repeat (first | exact ap_nil | refine ap_cons (by first | exact se_Name | exact se_Constant | exact se_BoolOp | exact se_BinOp | exact se_UnaryOp | exact se_IfExp | exact se_Dict | exact se_ListComp | exact se_Compare | exact se_Call | exact se_Attribute | exact se_Subscript | exact se_List | exact se_Tuple | exact se_JoinedStr | exact se_GeneratorExp) ?_)) : PEw X (.Call (.Name x p) (e :: es) [] pos) (tCB rl t) :=
  ⟨pe_callB hc hg hm hv ha.p hn hdb he hpl⟩
theorem we_cT (hc : CallR X (.type T) rl) (hg : Gl X x) (hm : X.mg x = none) (hv : bootBuiltins x = some (.type T)) (ha : PAw X (e :: es) t) (hn : x ≠ "__name__" := by decide) (hdb : (x == ("__debug__" : Str)) = false := by decide)
    (he : starEach (e :: es) X.env = (false, eval e X.env) :: starEach es X.env := by first | exact se_Name | exact se_Constant | exact se_BoolOp | exact se_BinOp | exact se_UnaryOp | exact se_IfExp | exact se_Dict | exact se_ListComp | exact se_Compare | exact se_Call | exact se_Attribute | exact se_Subscript | exact se_List | exact se_Tuple | exact se_JoinedStr | exact se_GeneratorExp) (hpl : (backTo pos (starEach es X.env)).any (·.1) = false := by repeat (first | exact ap_nil | refine ap_cons (by first | exact se_Name | exact se_Constant | exact se_BoolOp | exact se_BinOp | exact se_UnaryOp | exact se_IfExp | exact se_Dict | exact se_ListComp | exact se_Compare | exact se_Call | exact se_Attribute | exact se_Subscript | exact se_List | exact se_Tuple | exact se_JoinedStr | exact se_GeneratorExp) ?_)) : PEw X (.Call (.Name x p) (e :: es) [] pos) (tCB rl t) :=
  ⟨pe_callTy hc hg hm hv ha.p hn hdb he hpl⟩
theorem we_bm {name : Str} {apos cpos : Pos} {r : V → List V → Hp → VK → Prop} (pa : PlainAttrs T) (slot : Slot T name id) (hty : typeOf (.builtin id) = pure (.type "method_descriptor")) (hm : MtR X id r) (ho : PEw X o to) (ha : PAw X (e :: es) t)
    (hbase : attributeBase o name X.env (eval o X.env) = eval o X.env := by rfl)
    (hfew : ((backTo cpos (starEach (e :: es) X.env)).all (fun x => !x.1) && (backToKw cpos (keywordEach [] X.env)).all (fun x => x.1.isSome)
      && decide ((e :: es).length + ([] : List Keyword).length + (if ([] : List Keyword).isEmpty then 0 else 1) < 30)) = true := by rfl)
    (hline : (apos.endLine == cpos.line) = true := by rfl) (hs : starEach (e :: es) X.env = (false, eval e X.env) :: starEach es X.env := by first | exact se_Name | exact se_Constant | exact se_BoolOp | exact se_BinOp | exact se_UnaryOp | exact se_IfExp | exact se_Dict | exact se_ListComp | exact se_Compare | exact se_Call | exact se_Attribute | exact se_Subscript | exact se_List | exact se_Tuple | exact se_JoinedStr | exact se_GeneratorExp) (hplain : (backTo cpos (starEach es X.env)).any (·.1) = false := by repeat (first | exact ap_nil | refine ap_cons (by first | exact se_Name | exact se_Constant | exact se_BoolOp | exact se_BinOp | exact se_UnaryOp | exact se_IfExp | exact se_Dict | exact se_ListComp | exact se_Compare | exact se_Call | exact se_Attribute | exact se_Subscript | exact se_List | exact se_Tuple | exact se_JoinedStr | exact se_GeneratorExp) ?_)) :
    PEw X (.Call (.Attribute o name apos) (e :: es) [] cpos) (tBM X.K T r to t) := ⟨pe_bm pa slot hty hm ho.p ha.p hbase hfew hline hs hplain⟩
theorem we_bm0 {name : Str} {apos cpos : Pos} {r : V → List V → Hp → VK → Prop} (pa : PlainAttrs T) (slot : Slot T name id) (hty : typeOf (.builtin id) = pure (.type "method_descriptor")) (hm : MtR X id r) (ho : PEw X o to)
    (hbase : attributeBase o name X.env (eval o X.env) = eval o X.env := by rfl) (hline : (apos.endLine == cpos.line) = true := by rfl) : PEw X (.Call (.Attribute o name apos) [] [] cpos) (tBM0 X.K T r to) := ⟨pe_bm0 pa slot hty hm ho.p hbase hline⟩
/-! statements -/
theorem wss_nil : PSsw X [] tNext := ⟨pss_nil⟩
theorem wss_cons (h1 : PSw X st ts) (h2 : PSsw X sts us) : PSsw X (st :: sts) (tSeq ts us) := ⟨pss_cons h1.p h2.p⟩
theorem wss_one (h1 : PSw X st ts) : PSsw X [st] ts := ⟨pss_one h1.p⟩
theorem ws_pass : PSw X (.Pass pos) tNext := ⟨ps_pass⟩
theorem ws_break : PSw X (.Break pos) tBreak := ⟨ps_break⟩
theorem ws_continue : PSw X (.Continue pos) tCont := ⟨ps_continue⟩
theorem ws_expr (he : PEw X e te) (hs : swapsWith e none pos.line X.env = pure false := by rfl) : PSw X (.Expr e pos) (tDrop te) := ⟨ps_expr he.p hs⟩
theorem ws_ret (he : PEw X e te) : PSw X (.Return (some e) pos) (tRet te) := ⟨ps_ret he.p⟩
theorem ws_retN : PSw X (.Return none pos) tRetN := ⟨ps_retN⟩
theorem ws_if {c : Expr} {a b : List Stmt} (hc : PTw X c tA) (ha : PSsw X a ts) (hb : PSsw X b us) : PSw X (.If c a b pos) (tIfS tA ts us) := ⟨ps_if hc.p ha.p hb.p⟩
theorem ws_cut (h : PSw X st ts) : PSw X st (tCut ts) := ⟨ps_cut h.p⟩
theorem wg_name {i : Nat} {x : Str} (hN : X.N.Nodup) (hi : X.N[i]? = some x) (hx : Loc X.env.scope x) (hf : X.fn x = true ∨ X.env.scope.names.lookup x = some .local := by first | exact .inl rfl | exact .inr rfl | assumption) : PGw X (.Name x pos) (gName i) := ⟨pg_name hN hi hx hf⟩
theorem wgs_nil : PGsw X [] gNil := ⟨pgs_nil⟩
theorem wgs_cons {t : TG} {u : TGs} (h1 : PGw X e t) (h2 : PGsw X es u)
    (hs : (assignEach (e :: es) X.env).map (·.2) = assign e X.env :: (assignEach es X.env).map (·.2) := by rfl) : PGsw X (e :: es) (gCons t u) := ⟨pgs_cons h1.p h2.p hs⟩
theorem wg_tup {k : Nat} {t : TGs} {n : Nat} (hc : X.calm = true) (h : PGsw X es t)
    (hn : (assignEach es X.env).length = n := by rfl) (hst : (assignEach es X.env).findIdx? (·.1) = none := by rfl) : PGw X (.Tuple es k pos) (gTup X.K n t) := ⟨pg_tup hc h.p hn hst⟩
theorem wg_sub {i : Expr} {ti : TE} {t : TSet} (ho : PEw X o to) (hi : PEw X i ti) (hs : PSet X t)
    (ha : ∀ v, assign (.Subscript o i pos) X.env v = (do
      let ov ← holding [v] (eval o X.env)
      let iv ← holding [v, ov] (eval i X.env)
      standAt pos
      holding [v, ov, iv] (setItem ov iv v)
      release [v, ov, iv] []) := by intro _; rfl) : PGw X (.Subscript o i pos) (gSub to ti t) := ⟨pg_sub ho.p hi.p hs ha⟩
theorem ws_asg {g : TG} (he : PEw X e te) (hg : PGw X tg g) (hs : swapsWithSole [tg] e pos.line X.env = pure false := by rfl) (hw : swappedStores [tg] e X.env = pure none := by rfl) (h1 : (assignEach [tg] X.env).map (·.2) = [assign tg X.env] := by rfl) : PSw X (.Assign [tg] e pos) (tAsg te g) := ⟨ps_asg he.p hg.p hs hw h1⟩
theorem ws_set {i : Nat} {pos' : Pos} (hN : X.N.Nodup) (hi : X.N[i]? = some x) (hx : Loc X.env.scope x) (he : PEw X e te) (hs : swapsWith e (some (.Name x pos')) pos.line X.env = pure false := by rfl) (hf : X.fn x = true ∨ X.env.scope.names.lookup x = some .local := by first | exact .inl rfl | exact .inr rfl | assumption) :
    PSw X (.Assign [.Name x pos'] e pos) (tAsg te (gName i)) := ⟨ps_set hN hi hx he.p hs hf⟩
theorem ws_par {i j : Nat} {x y : Str} {ta : TA} {px py pt : Pos} {kt k2 pt2} (hc : X.calm = true) (hN : X.N.Nodup) (hi : X.N[i]? = some x) (hj : X.N[j]? = some y) (hij : i ≠ j)
    (hx : X.env.scope.names.lookup x = some .local) (hy : X.env.scope.names.lookup y = some .local) (ha : PAw X [a, b] ta)
    (hw : swappedStores [.Tuple [.Name x px, .Name y py] kt pt] (.Tuple [a, b] k2 pt2) X.env = pure (some [x, y]))
    (hs : swapsWithSole [.Tuple [.Name x px, .Name y py] kt pt] (.Tuple [a, b] k2 pt2) pos.line X.env = pure false := by rfl) :
    PSw X (.Assign [.Tuple [.Name x px, .Name y py] kt pt] (.Tuple [a, b] k2 pt2) pos) (tPar i j ta) := ⟨ps_par hc hN hi hj hij hx hy ha.p hw hs⟩
theorem ws_while {c : Expr} {tc : TT} {tb : TS} (hp : PassesOwn (model X.prog X.w) X.A X.env X.xe) (hc : PTw X c tc) (hb : PSsw X body tb) : PSw X (.While c body [] pos) (tWhile (tMono tc) tb) := ⟨ps_whileM hp hc.p hb.p⟩
theorem wi_list {l : Expr} {tl : TE} (hl : PEw X l tl) : PIw X tg l (iList X.K tl) := ⟨pi_list hl.p⟩
theorem wi_tup {l : Expr} {tl : TE} (hl : PEw X l tl) : PIw X tg l (iTup X.K tl) := ⟨pi_tup hl.p⟩
theorem wi_range1 {a : Expr} {ta : TA} {p pos : Pos} (hg : Gl X "range") (hm : X.mg "range" = none) (ha : PAw X [a] ta) (hs : starEach [a] X.env = [(false, eval a X.env)] := by first | exact se_Name | exact se_Constant | exact se_BoolOp | exact se_BinOp | exact se_UnaryOp | exact se_IfExp | exact se_Dict | exact se_ListComp | exact se_Compare | exact se_Call | exact se_Attribute | exact se_Subscript | exact se_List | exact se_Tuple | exact se_JoinedStr | exact se_GeneratorExp) : PIw X tg (.Call (.Name "range" p) [a] [] pos) (iRng1 ta) := ⟨pi_range1 hg hm ha.p hs⟩
theorem wi_range2 {a b : Expr} {ta : TA} {p pos : Pos} (hg : Gl X "range") (hm : X.mg "range" = none) (ha : PAw X [a, b] ta) (hs : starEach [a, b] X.env = [(false, eval a X.env), (false, eval b X.env)] := by rfl) (hs2 : starEach [b] X.env = [(false, eval b X.env)] := by first | exact se_Name | exact se_Constant | exact se_BoolOp | exact se_BinOp | exact se_UnaryOp | exact se_IfExp | exact se_Dict | exact se_ListComp | exact se_Compare | exact se_Call | exact se_Attribute | exact se_Subscript | exact se_List | exact se_Tuple | exact se_JoinedStr | exact se_GeneratorExp) :
    PIw X tg (.Call (.Name "range" p) [a, b] [] pos) (iRng2 ta) := ⟨pi_range2 hg hm ha.p hs hs2⟩
theorem ws_for {iter : Expr} {wi : TI} {g : TG} {tb : TS} {pos : Pos} (hp : PassesOwn (model X.prog X.w) X.A X.env X.xe) (hc : X.calm = true) (hi : PIw X tg iter wi) (hg : PGw X tg g) (hb : PSsw X body tb)
    (hs : ∀ x, foldedSetIterable iter X.env x = pure x := by intro _; rfl) : PSw X (.For tg iter body [] pos) (tFor wi g tb) := ⟨ps_for hp hc hi.p hg.p hb.p hs⟩
end
/-- THE RULE for a def, over the shut judgement -/
theorem Fun.okw {P : Program} {w : World} {K : PySem.W.Frag} {mg : Str → Option Value} {base : Heap} {x qual : Str} {st : Stmt} {f : Addr} {fd : FuncData} {N ps : List Str} {k : Nat} {sp : Sp} (F : Fun K x qual st f fd) (S : FnScope N ps (defScope st)) (len : ∀ vs H Q E, sp vs H Q E → vs.length = ps.length)
    (hbody : ∀ (cdv : Value) (A : Around) (outer : List Env) (s : Shared) (H : Hp) (vs : List V) (Q : VK) (E : XK), Room k (A.deeper (envOfC qual (defScope st) s.heap.objs.size f cdv)) → sp vs H Q E →
      ∃ t, PSsw (cxOf CX0 P w K mg base N qual (defScope st) f cdv A outer s H E).nox (defBody st) t ∧ t { nx := fun _ H' => Q .non H', rt := Q } (start N vs) H) : FnOk P w K mg base CX0 (k + 1) f fd ps sp :=
  F.ok S len fun cdv A outer s H vs Q E hr h => by
    obtain ⟨t, h1, h2⟩ := hbody cdv A outer s H vs Q E hr h
    exact ⟨t, h1.p, h2⟩
end L2

set_option Elab.async false
set_option linter.all false
set_option maxRecDepth 100000
namespace L2
open PySem PySem.Spec PyProof.Rows
/-! ### Euclid -/
theorem gcd_step (a b : Int) : Int.gcd b (a % b) = Int.gcd a b := by
  have h := Int.gcd_add_mul_right_right b (a % b) (a / b)
  rw [show a % b + a / b * b = a from by have := Int.emod_add_mul_ediv a b; rw [Int.mul_comm]; exact this] at h
  rw [← h, Int.gcd_comm]
theorem gcd_end {a : Int} (h : 0 < a) : (Int.gcd a 0 : Int) = a := by rw [Int.gcd_zero_right]; omega
/-! ### kinds of data -/
def dTup : PyData → Bool | .tuple _ => true | _ => false
def dInt : PyData → Bool | .int _ => true | .bool _ => true | _ => false
def dBool : PyData → Bool | .bool _ => true | _ => false
def dStr : PyData → Bool | .str _ => true | _ => false
def dWhole : PyData → Bool | .int _ => true | _ => false
theorem isD_tup (d : PyData) : isD "tuple" d = dTup d := by cases d <;> simp [isD, tyD, dTup]
theorem isD_int (d : PyData) : isD "int" d = dInt d := by cases d <;> simp [isD, tyD, dInt]
theorem isD_bool (d : PyData) : isD "bool" d = dBool d := by cases d <;> simp [isD, tyD, dBool]
theorem isD_str (d : PyData) : isD "str" d = dStr d := by cases d <;> simp [isD, tyD, dStr]
section
variable {H : Hp} {x : V} {d : PyData} {Q : VK}
theorem riTup (r : Rep H d x) (q : Q (.bl (dTup d)) H) : rIsi [x, .ty "tuple"] H Q := riI r (by rw [isD_tup]; exact q)
theorem riInt (r : Rep H d x) (q : Q (.bl (dInt d)) H) : rIsi [x, .ty "int"] H Q := riI r (by rw [isD_int]; exact q)
theorem riBool (r : Rep H d x) (q : Q (.bl (dBool d)) H) : rIsi [x, .ty "bool"] H Q := riI r (by rw [isD_bool]; exact q)
theorem riStr (r : Rep H d x) (q : Q (.bl (dStr d)) H) : rIsi [x, .ty "str"] H Q := riI r (by rw [isD_str]; exact q)
end
/-! ### things that are made of written ones: p is an address that they have nothing to do with -/
def MkE (p : Addr) (σ : St) (t : TE) (d : PyData) : Prop := ∀ (H : Hp) (Q : VK), (∃ o, H p = some o) → (∀ v H', Same H H' → Rep (Hide p H') d v → Q v H') → t σ H Q
def MkA (p : Addr) (σ : St) (t : TA) (ds : List PyData) : Prop := ∀ (H : Hp) (Q : List V → Hp → Prop), (∃ o, H p = some o) → (∀ vs H', Same H H' → RepL (Hide p H') ds vs → Q vs H') → t σ H Q
theorem RepL.len {H : Hp} : ∀ {ds : List PyData} {vs : List V}, RepL H ds vs → vs.length = ds.length
  | [], _, h => by cases (show _ = [] from h); rfl
  | d :: ds, _, h => by
    unfold RepL at h
    obtain ⟨x, xs, rfl, _, h2⟩ := h
    simp [RepL.len h2]
section
variable {p : Addr} {σ : St} {t : TE} {ta : TA} {d : PyData} {ds : List PyData}
theorem there_same {H H' : Hp} (s : Same H H') (h : ∃ o, H p = some o) : ∃ o, H' p = some o := by obtain ⟨o, h⟩ := h; exact ⟨o, s _ _ h⟩
theorem mk_int {i : Int} : MkE p σ (tC (.int i)) (.int i) := fun H Q _ k => k _ H (Same.refl H) (Rep.int i)
theorem mk_bl {i : Bool} : MkE p σ (tC (.bl i)) (.bool i) := fun H Q _ k => k _ H (Same.refl H) (Rep.bl i)
theorem mk_str {i : Str} : MkE p σ (tC (.str i)) (.str i) := fun H Q _ k => k _ H (Same.refl H) (Rep.str i)
theorem mk_non : MkE p σ (tC .non) .none := fun H Q _ k => k _ H (Same.refl H) Rep.non
theorem mk_neg {i : Int} : MkE p σ (tUn (rU fun i => .int (-i)) (tC (.int i))) (.int (-i)) := fun H Q _ k => ⟨i, rfl, k _ H (Same.refl H) (Rep.int (-i))⟩
theorem mk_pow {i j : Int} (h : CPow i j) : MkE p σ (tOp (rI CPow fun i j => .int (i ^ j.toNat)) (tC (.int i)) (tC (.int j))) (.int (i ^ j.toNat)) := fun H Q _ k => ⟨i, j, rfl, rfl, h, k _ H (Same.refl H) (Rep.int _)⟩
theorem mk_varI {i : Nat} {n : Int} (h : σ[i]? = some (some (.int n))) : MkE p σ (tVar i) (.int n) := fun H Q _ k => ⟨_, h, k _ H (Same.refl H) (Rep.int n)⟩
theorem mk_nil : MkA p σ tNil [] := fun H Q _ k => k _ H (Same.refl H) RepL.nil
theorem mk_cons (h : MkE p σ t d) (hs : MkA p σ ta ds) : MkA p σ (tCons t ta) (d :: ds) := fun H Q hp k =>
  h H _ hp fun v H1 s1 r1 => hs H1 _ (there_same s1 hp) fun vs H2 s2 r2 => k _ H2 (s1.trans s2) (RepL.cons (r1.same s2.but) r2)
theorem mk_tup (h : MkA p σ ta ds) (hz : ds.length ≤ 64) : MkE p σ (tTu ta) (.tuple ds) := fun H Q hp k =>
  h H _ hp fun vs H1 s1 r1 => nwT (by rw [r1.len]; exact hz) fun q H2 hq e2 s2 => k _ H2 (s1.trans s2) (by
    have hp1 := there_same s1 hp
    have n : q ≠ p := fun e => by subst e; obtain ⟨o, h⟩ := hp1; rw [h] at hq; cases hq
    exact Rep.tup (Hide.of n e2) (r1.same s2.but))
theorem mk_lst (h : MkA p σ ta ds) (hz : ds.length ≤ 64) : MkE p σ (tLs ta) (.list ds) := fun H Q hp k =>
  h H _ hp fun vs H1 s1 r1 => nwL (by rw [r1.len]; exact hz) fun q H2 hq e2 s2 => k _ H2 (s1.trans s2) (by
    have hp1 := there_same s1 hp
    have n : q ≠ p := fun e => by subst e; obtain ⟨o, h⟩ := hp1; rw [h] at hq; cases hq
    exact Rep.lst (Hide.of n e2) (r1.same s2.but))
theorem mk_dic : MkE p σ tDNewK (.dict []) := fun H Q hp k => alD fun q H2 hq e2 s2 => k _ H2 s2 (by
    have n : q ≠ p := fun e => by subst e; obtain ⟨o, h⟩ := hp; rw [h] at hq; cases hq
    exact Rep.dic (Hide.of n e2))
end
/-! ### an item at an open place -/
theorem atI_mem {α : Type} {xs : List α} {x : Int} (h0 : 0 ≤ x) (h1 : x < xs.length) : ∃ v, atI xs x = some v ∧ v ∈ xs ∧ xs[x.toNat]? = some v := by
  have h : x.toNat < xs.length := by omega
  have e := List.getElem?_eq_getElem h
  have := atI_nat e
  rw [Int.toNat_of_nonneg h0] at this
  exact ⟨_, this, List.getElem_mem h, e⟩
theorem RepL.mem {H : Hp} : ∀ {ds : List PyData} {vs : List V} {v : V}, RepL H ds vs → v ∈ vs → ∃ d, d ∈ ds ∧ Rep H d v
  | [], _, _, h, hv => by cases (show _ = [] from h); cases hv
  | d :: ds, _, v, h, hv => by
    unfold RepL at h
    obtain ⟨x, xs, rfl, h1, h2⟩ := h
    rcases List.mem_cons.mp hv with rfl | hv
    · exact ⟨d, List.mem_cons_self .., h1⟩
    · obtain ⟨d', m, r⟩ := RepL.mem h2 hv
      exact ⟨d', List.mem_cons_of_mem _ m, r⟩
theorem RepL.append {H : Hp} {es : List PyData} {ws : List V} (h' : RepL H es ws) : ∀ {ds : List PyData} {vs : List V}, RepL H ds vs → RepL H (ds ++ es) (vs ++ ws)
  | [], _, h => by cases (show _ = [] from h); exact h'
  | d :: ds, _, h => by
    unfold RepL at h
    obtain ⟨x, xs, rfl, h1, h2⟩ := h
    exact RepL.cons h1 (RepL.append h' h2)
end L2
namespace L2
theorem len2 {α : Type} {xs : List α} (h : xs.length = 2) : ∃ a b, xs = [a, b] := by
  match xs, h with
  | [a, b], _ => exact ⟨a, b, rfl⟩
end L2
namespace L2
open PySem PySem.Spec PyProof.Rows
theorem MkE.use {p : Addr} {σ : St} {t : TE} {d : PyData} {H : Hp} {Q : VK} (m : MkE p σ t d) (hp : ∃ o, H p = some o) (k : ∀ v H', Same H H' → Rep (Hide p H') d v → Q v H') : t σ H Q := m H Q hp k
/-- what stood ahead of l's making is as it was, whatever became of l -/
theorem Same.thru {l : Addr} {H0 H1 H2 : Hp} (hl : H0 l = none) (s : Same H0 H1) (b : SameBut l H1 H2) : Same H0 H2 := fun c o e => by
  have n : c ≠ l := ne_of_none e hl
  exact b.at n (s _ _ e)
theorem catL {H : Hp} {l b : Addr} {xs zs : List V} {Q : VK} (h1 : H l = some (.lst xs)) (h2 : H b = some (.lst zs)) (hz : xs.length + zs.length ≤ 1000) (k : ∀ q H', H q = none → H' q = some (.lst (xs ++ zs)) → Same H H' → Q (.ref q) H') : rCat (.ref l) (.ref b) H Q :=
  ⟨l, b, xs, zs, rfl, rfl, h1, h2, Nat.le_of_lt (small1000 hz), fun q hq => k q _ hq upd_same (Same.upd hq)⟩
@[irreducible] def rApp : V → List V → Hp → VK → Prop := rAppend
theorem mt_app {X : Cx} : MtR X "list.append" rApp := by unfold rApp; exact mt_append
theorem appL {H : Hp} {l : Addr} {xs : List V} {y : V} {Q : VK} (h : H l = some (.lst xs)) (hz : xs.length ≤ 1000) (k : ∀ H', H' l = some (.lst (xs ++ [y])) → SameBut l H H' → Q .non H') : rApp (.ref l) [y] H Q := by
  unfold rApp; exact ⟨l, xs, y, rfl, rfl, h, small1000 hz, k _ upd_same SameBut.self⟩
theorem tyL {K : PySem.W.Frag} {H : Hp} {l : Addr} {xs : List V} (h : H l = some (.lst xs)) : tyV K "list" (.ref l) H := .inl ⟨rfl, xs, SqL.of h⟩
end L2

set_option Elab.async false
set_option linter.all false
set_option maxRecDepth 100000
namespace L2
open PySem PySem.Spec PyProof.Rows
/-! ### a list's comprehension over one source, its name plain -/
def closL (env : Env) : List (Str × NameKind) → List (Str × Addr) → List (Str × Addr)
  | [], cs => cs
  | (n, k) :: r, cs => if k == .free then closL env r ((n, (env.cells.lookup n).getD 0) :: cs) else closL env r cs
theorem clos_eq (env : Env) : ∀ (l : List (Str × NameKind)) (cs : List (Str × Addr)), (∀ y ∈ l, y.2 = .free → ∃ c, env.cells.lookup y.1 = some c) →
    (forIn l cs fun (x : Str × NameKind) r => if x.2 == .free then (do let c ← cellOf env x.1; pure (ForInStep.yield ((x.1, c) :: r)) : Sem _) else pure (ForInStep.yield r)) = pure (closL env l cs)
  | [], cs, _ => rfl
  | (n, k) :: r, cs, h => by
    rw [List.forIn_cons]
    have ih := fun cs => clos_eq env r cs fun y hy => h y (List.mem_cons_of_mem _ hy)
    by_cases hk : (k == NameKind.free) = true
    · obtain ⟨c, hc⟩ := h (n, k) List.mem_cons_self (by simpa using hk)
      dsimp only at hc
      simp only [hk, if_true, closL, hc, Option.getD_some, cellOf, pure_bind]
      exact ih _
    · simp only [hk, closL, pure_bind]
      exact ih _
theorem closureFor_eq {env : Env} {scope : Scope} (h : ∀ y ∈ scope.names, y.2 = .free → ∃ c, env.cells.lookup y.1 = some c) : closureFor scope env = pure (closL env scope.names []) := by
  have e := clos_eq env scope.names [] h
  unfold closureFor
  simp only [bind_pure]
  exact e
theorem closL_mem {env : Env} : ∀ (l : List (Str × NameKind)) (cs : List (Str × Addr)), (∀ y ∈ l, y.2 = .free → ∃ c, env.cells.lookup y.1 = some c) → ∀ p ∈ closL env l cs, p ∈ cs ∨ env.cells.lookup p.1 = some p.2
  | [], cs, _, p, hp => .inl hp
  | (n, k) :: r, cs, h, p, hp => by
    have h' : ∀ y ∈ r, y.2 = .free → ∃ c, env.cells.lookup y.1 = some c := fun y hy => h y (List.mem_cons_of_mem _ hy)
    unfold closL at hp
    by_cases hk : (k == NameKind.free) = true
    · rw [if_pos hk] at hp
      obtain ⟨c, hc⟩ := h (n, k) List.mem_cons_self (by simpa using hk)
      rcases closL_mem r _ h' p hp with hm | hm
      · rcases List.mem_cons.mp hm with rfl | hm
        · exact .inr (by dsimp only at hc ⊢; rw [hc]; rfl)
        · exact .inl hm
      · exact .inr hm
    · rw [if_neg hk] at hp
      exact closL_mem r cs h' p hp
theorem closL_acc {env : Env} : ∀ (l : List (Str × NameKind)) (cs : List (Str × Addr)), ∀ p ∈ cs, p ∈ closL env l cs
  | [], _, _, hp => hp
  | (n, k) :: r, cs, p, hp => by
    unfold closL
    by_cases hk : (k == NameKind.free) = true
    · rw [if_pos hk]; exact closL_acc r _ p (List.mem_cons_of_mem _ hp)
    · rw [if_neg hk]; exact closL_acc r _ p hp
theorem closL_has {env : Env} : ∀ (l : List (Str × NameKind)) (cs : List (Str × Addr)) (y : Str), (y, NameKind.free) ∈ l → ∃ a, (y, a) ∈ closL env l cs
  | (n, k) :: r, cs, y, hy => by
    unfold closL
    rcases List.mem_cons.mp hy with e | hm
    · cases e
      rw [if_pos (by rfl)]
      exact ⟨_, closL_acc r _ _ List.mem_cons_self⟩
    · by_cases hk : (k == NameKind.free) = true
      · rw [if_pos hk]; exact closL_has r _ y hm
      · rw [if_neg hk]; exact closL_has r _ y hm
theorem lookup_mem {α β : Type} [BEq α] [LawfulBEq α] {x : α} {c : β} : ∀ {l : List (α × β)}, l.lookup x = some c → (x, c) ∈ l
  | [], h => by cases h
  | (a, b) :: r, h => by
    rw [List.lookup_cons] at h
    by_cases e : (x == a) = true
    · rw [e] at h
      have : x = a := by simpa using e
      subst this
      cases h
      exact List.mem_cons_self
    · have e' : (x == a) = false := by simpa using e
      rw [e'] at h
      exact List.mem_cons_of_mem _ (lookup_mem h)
theorem mem_lookup {α β : Type} [BEq α] [LawfulBEq α] {x : α} {c : β} : ∀ {l : List (α × β)}, (x, c) ∈ l → ∃ c', l.lookup x = some c'
  | (a, b) :: r, h => by
    rw [List.lookup_cons]
    by_cases e : (x == a) = true
    · rw [e]; exact ⟨_, rfl⟩
    · have e' : (x == a) = false := by simpa using e
      rw [e']
      rcases List.mem_cons.mp h with q | q
      · cases q; simp at e
      · exact mem_lookup q
def clOf (X : Cx) (scope : Scope) : List (Str × Addr) := closL X.env scope.names []
theorem clOf_env {X : Cx} {scope : Scope} (h : ∀ y ∈ scope.names, y.2 = .free → ∃ c, X.env.cells.lookup y.1 = some c) {x : Str} {c : Addr} (e : (clOf X scope).lookup x = some c) : X.env.cells.lookup x = some c := by
  rcases closL_mem scope.names [] h _ (lookup_mem e) with hm | hm
  · cases hm
  · exact hm
theorem clOf_has {X : Cx} {scope : Scope} (h : ∀ y ∈ scope.names, y.2 = .free → ∃ c, X.env.cells.lookup y.1 = some c) {x : Str} (hx : (x, NameKind.free) ∈ scope.names) {c : Addr} (e : X.env.cells.lookup x = some c) : (clOf X scope).lookup x = some c := by
  obtain ⟨a, ha⟩ := closL_has (env := X.env) scope.names [] x hx
  obtain ⟨c', hc'⟩ := mem_lookup ha
  have := clOf_env h hc'
  rw [e] at this
  cases this
  exact hc'
/-- the context of the block -/
def cxC (X : Cx) (scope : Scope) (C : Addr) (fp : List Addr) (s₀ : Shared) (H₀ : Hp) (N' : List Str) : Cx where
  prog := X.prog
  w := X.w
  K := X.K
  mg := X.mg
  base := X.base
  A := X.A
  N := N'
  s₀ := s₀
  H₀ := H₀
  env := compEnvC scope (clOf X scope) C X.env
  outer := X.stack
  stack := X.stack
  ex := fp
  fn := fun _ => false
  calm := true
  pn := []
  xe := fun _ _ => False
def slots (σ : St) (js : List Nat) : St := js.map fun j => (σ[j]?).getD none
/-- the tests of a comprehension -/
def PTs (X : Cx) (ifs : List Expr) (t : TT) : Prop :=
  ∀ (pins : List (Addr × Obj)) (s : Shared) (σ : St) (H : Hp) (Q : Bool → Hp → Prop), Inv X pins σ H s → t σ H Q →
    wpAny (model X.prog X.w) X.A (forIn ifs true fun c r => if r = true then do let ok ← isTrue c X.env (eval c X.env); pure (ForInStep.yield ok) else pure (ForInStep.yield r)) (TP X pins σ Q) X.xe s
def tYes : TT := fun _ H Q => Q true H
theorem pts_nil {X : Cx} : PTs X [] tYes := fun pins s σ H Q I h => wpAny_tests_nil ⟨H, I, h⟩
theorem pts_one {X : Cx} {c : Expr} {t : TT} (h : PT X c t) : PTs X [c] t := fun pins s σ H Q I q => wpAny_tests_one (h pins s σ H Q I q)
def tComp (wi : TI) (js : List Nat) (tc : TT) (te : TE) : TE := fun σ H Q => wi σ H fun J H1 => ∀ D, H1 D = none → ∃ W : Nat → Nat → List V → Hp → Prop, (∃ m, W 0 m [] (upd H1 D (.lst []))) ∧
  ∀ i m ys H2, W i m ys H2 → H2 D = some (.lst ys) ∧ ((J.stop i H2 ∧ Q (.ref D) H2) ∨ (J.go i H2 ∧ ys.length < sizeLine ∧ ∀ x H3, J.yld i H2 x H3 →
    tc (some x :: slots σ js) H3 fun b H4 => if b = true then te (some x :: slots σ js) H4 fun y H5 => H5 D = some (.lst ys) ∧ ∃ m', m' < m ∧ W (i + 1) m' (ys ++ [y]) (upd H5 D (.lst (ys ++ [y])))
      else H4 D = some (.lst ys) ∧ ∃ m', m' < m ∧ W (i + 1) m' ys H4))
/-- what of the scope is asked -/
structure CScope (X : Cx) (scope : Scope) (x : Str) (N' : List Str) (js : List Nat) : Prop where
  calm : X.calm = true
  free : ∀ y ∈ scope.names, y.2 = .free → X.env.kindOf y.1 = some .cell
  cell : ∀ y ∈ scope.names, y.2 ≠ .cell
  kind : scope.kind = .function
  names : ∀ y ∈ scope.names, y.2 = .local → scope.names.lookup y.1 = some .local
  own : scope.names.lookup x = some .local
  nofl : ∀ y, (y, NameKind.free) ∈ scope.names → scope.names.lookup y = some .local → False
  len : N'.length = js.length + 1
  zero : N'[0]? = some x
  nd : N'.Nodup
  slot : ∀ (i : Nat) (j : Nat), js[i]? = some j → ∃ y, N'[i + 1]? = some y ∧ X.N[j]? = some y ∧ (y, NameKind.free) ∈ scope.names
end L2

set_option Elab.async false
set_option linter.all false
set_option maxRecDepth 100000
namespace L2
open PySem PySem.Spec PyProof.Rows
section
variable {X : Cx} {pins : List (Addr × Obj)} {σ : St} {H : Hp} {s : Shared} {scope : Scope} {x : Str} {N' : List Str} {js : List Nat} {fp : List Addr}
theorem CScope.cells (S : CScope X scope x N' js) (ok : X.Ok) : ∀ y ∈ scope.names, y.2 = .free → ∃ c, X.env.cells.lookup y.1 = some c := fun y hy hf => ok.has _ (.inl (S.free y hy hf))
theorem relabel_cases {env : Env} : ∀ {names : List (Str × NameKind)} {y : Str} {k : NameKind}, (names.map fun (n, k) => if (k == NameKind.free && env.scope.kind == .function && env.kindOf n == some .cell) then (n, NameKind.cell) else (n, k)).lookup y = some k →
    (k = .cell ∨ k = .free) → (∀ z ∈ names, z.2 ≠ .cell) → (y, NameKind.free) ∈ names
  | [], _, _, h, _, _ => by cases h
  | (n, q) :: r, y, k, h, hk, hc => by
    rw [List.map_cons, List.lookup_cons] at h
    have ih := fun h => @relabel_cases env r y k h hk fun z hz => hc z (List.mem_cons_of_mem _ hz)
    by_cases hq : (q == NameKind.free && env.scope.kind == .function && env.kindOf n == some .cell) = true
    · dsimp only at h
      rw [if_pos hq] at h
      have qf : q = .free := by
        rw [Bool.and_eq_true, Bool.and_eq_true] at hq
        simpa using hq.1.1
      subst qf
      by_cases e : (y == n) = true
      · have : y = n := by simpa using e
        subst this
        exact List.mem_cons_self
      · have e' : (y == n) = false := by simpa using e
        dsimp only at h
        rw [e'] at h
        exact List.mem_cons_of_mem _ (ih h)
    · dsimp only at h
      rw [if_neg hq] at h
      by_cases e : (y == n) = true
      · have : y = n := by simpa using e
        subst this
        dsimp only at h
        rw [e] at h
        have hkq : k = q := by injection h with h; exact h.symm
        subst hkq
        rcases hk with rfl | rfl
        · exact absurd rfl (hc _ List.mem_cons_self)
        · exact List.mem_cons_self
      · have e' : (y == n) = false := by simpa using e
        dsimp only at h
        rw [e'] at h
        exact List.mem_cons_of_mem _ (ih h)
theorem cxC_ok (S : CScope X scope x N' js) (I : Inv X pins σ H s) (hf : ∀ b ∈ fp, FpOk X pins H b) (hb : ∀ b ∈ fp, b < s.heap.objs.size) : (cxC X scope s.heap.objs.size fp s H N').Ok where
  mod := I.ok.mod
  kind := S.kind
  glob := I.ok.glob
  blt := I.ok.blt
  above := Nat.le_refl _
  inj := fun y z c h1 h2 => I.ok.inj y z c (clOf_env (S.cells I.ok) h1) (clOf_env (S.cells I.ok) h2)
  has := fun y hy => by
    have hm : (y, NameKind.free) ∈ scope.names := by
      rcases hy with hy | hy
      · exact relabel_cases (env := X.env) hy (.inl rfl) S.cell
      · exact relabel_cases (env := X.env) hy (.inr rfl) S.cell
    obtain ⟨c, hc⟩ := S.cells I.ok _ hm rfl
    exact ⟨c, clOf_has (S.cells I.ok) hm hc⟩
  cab := fun _ _ h => by cases h
  hd := fun _ => I.ok.hd S.calm
  frames := I.ok.frames
  stk := .inl rfl
  exf := fun b hb' => ⟨fun e => by have := hb b hb'; rw [e] at this; exact Nat.lt_irrefl _ this, fun y c h => (hf b hb').2.2.2.2.1 y c (clOf_env (S.cells I.ok) h)⟩
  bs := I.bs
  bsz := Nat.le_trans I.ok.bsz I.sz
  noex := fun b o e hb' => by
    rcases (hf b hb').2.2.2.1 with h | h
    · exact I.ok.noex b o e h
    · exact absurd (Nat.lt_of_lt_of_le (Heap.lt_size e) (Nat.le_trans I.ok.bsz h)) (Nat.lt_irrefl _)
  exfs := fun b hb' hs => by
    have h2 := I.stkSub b hs
    rcases List.mem_cons.mp h2 with h2 | h2
    · exact (hf b hb').2.1 h2
    · exact (hf b hb').2.2.1 h2
  funs := I.stack
  frf := I.stkFree
theorem slots_get {i j : Nat} (h : js[i]? = some j) : (slots σ js)[i]? = some ((σ[j]?).getD none) := by
  unfold slots; rw [List.getElem?_map, h]; rfl
/-- the block begins -/
theorem cxC_inv {h' : Heap} {tk : Nat} (S : CScope X scope x N' js) (I : Inv X pins σ H s) (hf : ∀ b ∈ fp, FpOk X pins H b) (hb : ∀ b ∈ fp, b < s.heap.objs.size)
    (hn : h'.Ns s.heap.objs.size (fun _ => none)) (hk : ∀ b o, s.heap.get? b = some o → h'.get? b = some o) : Inv (cxC X scope s.heap.objs.size fp s H N') [] (none :: slots σ js) H { s with heap := h', toks := tk } where
  ok := cxC_ok S I hf hb
  os := rfl
  bare := I.bare
  base := Un.kept hk
  loc := by
    refine ⟨_, hn, fun i y v hi hv hvis => ?_⟩
    cases i with
    | zero => cases hv
    | succ i =>
      have hv' : (slots σ js)[i]? = some (some v) := hv
      have hlt : i < js.length := by
        have := (List.getElem?_eq_some_iff.mp hv').1
        unfold slots at this
        rwa [List.length_map] at this
      have hj : js[i]? = some js[i] := List.getElem?_eq_getElem hlt
      obtain ⟨z, h1, h2, h3⟩ := S.slot i _ hj
      have hzy : z = y := by
        have : N'[i + 1]? = some y := hi
        rw [h1] at this; cases this; rfl
      subst hzy
      rw [slots_get hj] at hv'
      have hσ : σ[js[i]]? = some (some v) := by
        cases q : σ[js[i]]? with
        | none => rw [q] at hv'; cases hv'
        | some o => rw [q] at hv'; cases hv'; rfl
      have hkc : X.env.kindOf z = some .cell := S.free _ h3 rfl
      obtain ⟨m, hm, hl⟩ := I.loc
      obtain ⟨u, ru, lk⟩ := hl _ z v h2 hσ (.inr (.inl hkc))
      rcases lk with ⟨hk1, _⟩ | ⟨_, c, hc, hcell⟩
      · rw [hkc] at hk1; cases hk1
      · refine ⟨u, ru, .inr ⟨?_, c, clOf_has (S.cells I.ok) h3 hc, ?_⟩⟩
        · rcases hvis with hvis | hvis | hvis
          · exfalso
            have hcl := clOf_has (S.cells I.ok) h3 hc
            -- a name that is free in the scope is not local there
            have hm2 := lookup_mem (l := (relabel scope X.env).names) hvis
            unfold relabel at hm2
            obtain ⟨⟨n, k⟩, hmem, he⟩ := List.mem_map.mp hm2
            dsimp only at he
            by_cases hq : (k == NameKind.free && X.env.scope.kind == .function && X.env.kindOf n == some .cell) = true
            · rw [if_pos hq] at he; cases he
            · rw [if_neg hq] at he
              cases he
              have := S.names _ hmem rfl
              have l2 := mem_lookup h3
              obtain ⟨c', l2⟩ := l2
              dsimp only at this
              rw [this] at l2
              have key : (relabel scope X.env).names.lookup z = some .local := lookup_relabel_local this
              have hck : scope.names.lookup z = some .local := this
              exact S.nofl z h3 hck
          · exact .inl hvis
          · exact .inr hvis
        · obtain ⟨o, e, r⟩ := hcell
          exact ⟨o, hk _ _ e, r⟩
  cell := fun y c h => by
    obtain ⟨v, o, e, r⟩ := I.cell y c (clOf_env (S.cells I.ok) h)
    exact ⟨v, o, hk _ _ e, r⟩
  free := I.hok.fresh (Nat.le_refl _)
  freeC := fun y c h => I.freeC y c (clOf_env (S.cells I.ok) h)
  pin := fun p hp => by cases hp
  hok := I.hok.kept hk
  len := by
    show (slots σ js).length + 1 = N'.length
    unfold slots
    rw [List.length_map, S.len]
/-- all but an untracked place is kept -/
theorem HOk.but {P : Program} {w : World} {H : Hp} {h h' : Heap} {C : Addr} (x : HOk P w H h) (hC : H C = none) (k : ∀ b u, b ≠ C → h.get? b = some u → h'.get? b = some u) : HOk P w H h' := fun a o e =>
  (x a o e).stay (fun b u hb q => k b u (by
    rcases hb with rfl | hb
    · exact ne_of_none e hC
    · exact ne_of_none hb hC) q) (fun _ q => q) fun _ _ q => q
/-- the block's end, for the def around it -/
theorem cxC_back {H2 : Hp} {σ' : St} {s2 : Shared} {h'' : Heap} (S : CScope X scope x N' js) (I : Inv X pins σ H s) (hf : ∀ b ∈ fp, FpOk X pins H b)
    (J : Inv (cxC X scope s.heap.objs.size fp s H N') [] σ' H2 s2) (hs : Heap.SameBut s.heap.objs.size s2.heap h'') : Inv X pins σ H2 { s2 with heap := h'' } := by
  have hC : H2 s.heap.objs.size = none := J.free
  have ne : ∀ {b : Addr} {o : Obj}, s.heap.get? b = some o → b ≠ s.heap.objs.size := fun e q => by
    have := Heap.lt_size e; rw [q] at this; exact Nat.lt_irrefl _ this
  refine I.call' (s' := { s2 with heap := h'' }) (ch := fp) (by rw [show ({ s2 with heap := h'' } : Shared).os = s2.os from rfl]; exact J.os) ?_ (J.hok.but hC fun b u hb q => hs.extBut b u hb q) J.bare fun b hb => ⟨(hf b hb).2.2.2.1, (hf b hb).2.1, (hf b hb).2.2.2.2.1, (hf b hb).2.2.2.2.2⟩
  have U := J.base
  exact {
    keep := fun b o e n h1 h2 => hs.extBut b o (ne e) (U.keep b o e n h1 h2)
    slot := fun b o e n h1 h2 => by
      obtain ⟨sl, q⟩ := U.slot b o e n h1 h2
      exact ⟨sl, hs.extBut b _ (ne e) q⟩
    free := U.free
    there := fun b o e h2 => by
      obtain ⟨o', q⟩ := U.there b o e h2
      exact ⟨o', hs.extBut b _ (ne e) q⟩
    tups := U.tups
    frzs := U.frzs
    tbls := U.tbls }
end
end L2

set_option Elab.async false
set_option linter.all false
set_option maxRecDepth 100000
namespace L2
open PySem PySem.Spec PyProof.Rows
abbrev NoX : Value → Shared → Prop := fun _ _ => False
theorem compLoop_gen {prog : Program} {w : World} {A : Around} {R : Result → Shared → Prop} {s : Shared} {elt target iter : Expr} {ifs : List Expr} {scope : Scope} {pos : Pos} {it acc : Value} {env : Env} (I : Nat → Shared → Prop)
    (turn : ∀ n s, I n s → wpAny (model prog w) A (pyNext it) (fun r s₁ => match r with
      | none => R (.ok .next) s₁
      | some v => wpAny (model prog w) A (letOwnedTupleGo target it v) (fun _ s₁' => wpAny (model prog w) A (assign target env v) (fun _ s₂ =>
          wpAny (model prog w) A (forIn ifs true fun c r => if r = true then do let ok ← isTrue c env (eval c env); pure (ForInStep.yield ok) else pure (ForInStep.yield r)) (fun ok s₃ =>
            if ok = true then wpAny (model prog w) A (eval elt env) (fun x s₄ => wpAny (model prog w) A (call (.builtin "list.append") [acc, x]) (fun _ s₅ => ∃ m, m < n ∧ I m s₅) NoX s₄) NoX s₃
            else ∃ m, m < n ∧ I m s₃) NoX s₂) NoX s₁') NoX s₁) NoX s)
    (n : Nat) (h : I n s) : codeAny (model prog w) A (.compLoop (.ListComp elt [⟨target, iter, ifs, 0⟩] scope pos) 0 it acc env) R s := by
  refine codeAny_loop rfl I (fun n s hI => ?_) n h
  show wpAny _ A ((compTurn (.ListComp elt [⟨target, iter, ifs, 0⟩] scope pos) 0 it acc env).onRaise (fun x => do noteFrame x env; theTreesLotGoes x)) _ _ s
  refine wpAny_noted ?_
  rw [compTurn_list]
  refine wpAny_bind (wpAny_standAt (wpAny_bind (wpAny_mono (turn n s hI) (fun r s₁ h₁ => ?_) fun _ _ h' => h'.elim)))
  cases r with
  | none => exact wpAny_pure h₁
  | some v =>
    refine wpAny_bind (wpAny_mono h₁ (fun _ s₁' h₁' => ?_) fun _ _ h' => h'.elim)
    refine wpAny_bind (wpAny_mono h₁' (fun _ s₂ h₂ => wpAny_bind (wpAny_mono h₂ (fun ok s₃ h₃ => ?_) fun _ _ h' => h'.elim)) fun _ _ h' => h'.elim)
    cases ok with
    | false => exact wpAny_pure ⟨rfl, h₃⟩
    | true =>
      exact wpAny_bind (wpAny_bind (wpAny_mono h₃ (fun x s₄ h₄ => wpAny_bind (wpAny_mono h₄ (fun _ s₅ h₅ => wpAny_pure (wpAny_pure ⟨rfl, h₅⟩)) fun _ _ h' => h'.elim)) fun _ _ h' => h'.elim))
section
variable {X : Cx} {pins : List (Addr × Obj)} {σ : St} {H : Hp} {s : Shared} {scope : Scope} {x : Str} {N' : List Str} {js : List Nat} {fp : List Addr} {elt iter : Expr} {px pos : Pos} {ifs : List Expr} {tc : TT} {te : TE}
theorem comp_block {J : It} {it : Addr} {tn : Nat → Heap → Prop} {RR : Value → Addr → Result → Shared → Prop} {E : Value → Shared → Prop} {Q : VK}
    (S : CScope X scope x N' js) (I : Inv X pins σ H s) (T : Turn X.prog X.w X.K (.Name x px) J fp it tn) (h0 : tn 0 s.heap) (hf : ∀ b ∈ fp, FpOk X pins H b)
    (ht : ∀ C fp s₀ H₀, PTs (cxC X scope C fp s₀ H₀ N') ifs tc) (he : ∀ C fp s₀ H₀, PE (cxC X scope C fp s₀ H₀ N') elt te)
    (R : ∀ D, H D = none → ∃ W : Nat → Nat → List V → Hp → Prop, (∃ m, W 0 m [] (upd H D (.lst []))) ∧
      ∀ i m ys H2, W i m ys H2 → H2 D = some (.lst ys) ∧ ((J.stop i H2 ∧ Q (.ref D) H2) ∨ (J.go i H2 ∧ ys.length < sizeLine ∧ ∀ x H3, J.yld i H2 x H3 →
        tc (some x :: slots σ js) H3 fun b H4 => if b = true then te (some x :: slots σ js) H4 fun y H5 => H5 D = some (.lst ys) ∧ ∃ m', m' < m ∧ W (i + 1) m' (ys ++ [y]) (upd H5 D (.lst (ys ++ [y])))
          else H4 D = some (.lst ys) ∧ ∃ m', m' < m ∧ W (i + 1) m' ys H4)))
    (hRR : ∀ (D : Addr) (H3 : Hp) (s3 : Shared) (σ' : St) (H' : Hp) (s' : Shared), Inv X pins σ H3 s3 → (∀ b ∈ fp, FpOk X pins H3 b) → Inv (cxC X scope s3.heap.objs.size fp s3 H3 N') [] σ' H' s' → Q (.ref D) H' → RR (.ref D) s3.heap.objs.size (.ok .next) s') :
    wpAny (model X.prog X.w) X.A (newList []) (fun acc s₃ => wpAny (model X.prog X.w) X.A (newFunctionEnv scope X.env.globals (clOf X scope) [] X.env.qual none .none (some X.env)) (fun cenv s₄ =>
      codeAny (model X.prog X.w) X.A (.compStart (.ListComp elt [⟨.Name x px, iter, ifs, 0⟩] scope pos) 0 (.ref it) acc { cenv with scope := relabel scope X.env }) (RR acc cenv.locals) s₄) E s₃) E s := by
  have hb : ∀ b ∈ fp, b < s.heap.objs.size := fun b hb => by
    obtain ⟨o, e, _⟩ := T.obj 0 _ h0 b hb
    exact Heap.lt_size e
  refine wpAny_newObj_type (wpAny_newFunctionEnv S.cell (by intro y hy; simp at hy) (fun h₁ hns₁ hsb₁ => ?_) S.kind)
  have hDn : H s.heap.objs.size = none := I.hok.fresh (Nat.le_refl _)
  obtain ⟨W, ⟨m0, hw0⟩, hW⟩ := R _ hDn
  have I3 : Inv X pins σ (upd H s.heap.objs.size (.lst [])) { s with heap := s.heap.push { cls := .type "list", dict := none, data := .seq ([] : List Value).toArray } } := I.lnew (its := []) (ys := []) (t' := s.toks) .nil (Nat.zero_le _)
  have hf3 : ∀ b ∈ fp, FpOk X pins (upd H s.heap.objs.size (.lst [])) b := fun b hb' =>
    ⟨by rw [upd_ne (fun e => by have := hb b hb'; rw [e] at this; exact Nat.lt_irrefl _ this)]; exact (hf b hb').1, (hf b hb').2⟩
  have hb3 : ∀ b ∈ fp, b < (s.heap.push { cls := .type "list", dict := none, data := .seq ([] : List Value).toArray }).objs.size := fun b hb' => by
    rw [Heap.size_push]; exact Nat.lt_succ_of_lt (hb b hb')
  have hkeep : ∀ b o, (s.heap.push { cls := .type "list", dict := none, data := .seq ([] : List Value).toArray }).get? b = some o → h₁.get? b = some o := fun b o e =>
    hsb₁.extBut b o (fun q => by have := Heap.lt_size e; rw [q] at this; exact Nat.lt_irrefl _ this) (Heap.get?_push_of_some _ e)
  have J4 := cxC_inv (h' := h₁) (tk := s.toks + ([] : List (Str × Value)).length) S I3 hf3 hb3 hns₁ hkeep
  have t4 : tn 0 h₁ := T.keep 0 _ _ h0 fun b hb' o e => hkeep b o (Heap.get?_push_of_some _ e)
  have loop : codeAny (model X.prog X.w) X.A (.compLoop (.ListComp elt [⟨.Name x px, iter, ifs, 0⟩] scope pos) 0 (.ref it) (.ref s.heap.objs.size) (compEnvC scope (clOf X scope) (s.heap.push { cls := .type "list", dict := none, data := .seq ([] : List Value).toArray }).objs.size X.env))
      (RR (.ref s.heap.objs.size) (s.heap.push { cls := .type "list", dict := none, data := .seq ([] : List Value).toArray }).objs.size) { s with heap := h₁, toks := s.toks + ([] : List (Str × Value)).length } := by
    refine compLoop_gen (fun n s' => ∃ (i : Nat) (ys : List V) (H2 : Hp) (o : Option V), Inv (cxC X scope _ fp _ _ N') [] (o :: slots σ js) H2 s' ∧ tn i s'.heap ∧ (∀ b ∈ fp, H2 b = none) ∧ W i n ys H2) ?_ m0 ⟨0, [], _, none, J4, t4, fun b hb' => (hf3 b hb').1, hw0⟩
    rintro n s' ⟨i, ys, H2, o, J2, t2, f2, w2⟩
    obtain ⟨hD, hcase⟩ := hW i n ys H2 w2
    have Fp : ∀ b ∈ fp, FpOk (cxC X scope (s.heap.push { cls := .type "list", dict := none, data := .seq ([] : List Value).toArray }).objs.size fp { s with heap := s.heap.push { cls := .type "list", dict := none, data := .seq ([] : List Value).toArray } } (upd H s.heap.objs.size (.lst [])) N') [] H2 b := fun b hb' =>
      ⟨f2 b hb', (J2.ok.exf b hb').1, J2.ok.exfs b hb', .inl hb', (J2.ok.exf b hb').2, fun p hp => by cases hp⟩
    rcases hcase with ⟨hstop, hq⟩ | ⟨hgo, hz, hturn⟩
    · refine wpAny_mono (T.done (cxC X scope _ fp _ _ N') rfl rfl rfl rfl i [] s' _ H2 NoX J2 Fp t2 hstop) (fun r s1 ⟨hr, J5⟩ => ?_) fun _ _ f => f
      subst hr
      exact hRR _ _ _ _ _ _ I3 hf3 J5 hq
    · refine wpAny_mono (T.item (cxC X scope _ fp _ _ N') rfl rfl rfl rfl i [] s' _ H2 NoX J2 Fp t2 hgo) (fun r s1 ⟨u, hr, hx⟩ => ?_) fun _ _ f => f
      subst hr
      refine wpAny_mono hx (fun _ s2 ⟨v, H3, J3, rv, hy, t3, f3⟩ => ?_) fun _ _ f => f
      have Fp3 : ∀ b ∈ fp, FpOk (cxC X scope (s.heap.push { cls := .type "list", dict := none, data := .seq ([] : List Value).toArray }).objs.size fp { s with heap := s.heap.push { cls := .type "list", dict := none, data := .seq ([] : List Value).toArray } } (upd H s.heap.objs.size (.lst [])) N') [] H3 b := fun b hb' =>
        ⟨f3 b hb', (J3.ok.exf b hb').1, J3.ok.exfs b hb', .inl hb', (J3.ok.exf b hb').2, fun p hp => by cases hp⟩
      have P3 := J3.pinned Fp3 (T.obj (i + 1) _ t3)
      have keepT : ∀ {σ' : St} {Hx : Hp} {sx : Shared}, Inv (cxC X scope (s.heap.push { cls := .type "list", dict := none, data := .seq ([] : List Value).toArray }).objs.size fp { s with heap := s.heap.push { cls := .type "list", dict := none, data := .seq ([] : List Value).toArray } } (upd H s.heap.objs.size (.lst [])) N') ([] ++ pinsAt fp s2.heap) σ' Hx sx → tn (i + 1) sx.heap ∧ ∀ b ∈ fp, Hx b = none := fun Jx =>
        ⟨T.keep (i + 1) _ _ t3 fun b hb' ob e => (Jx.pin (b, ob) (List.mem_append_right _ (List.mem_append_right _ (mem_pinsAt hb' e)))).1, fun b hb' => by
          obtain ⟨ob, e, _⟩ := T.obj (i + 1) _ t3 b hb'
          exact (Jx.pin (b, ob) (List.mem_append_right _ (List.mem_append_right _ (mem_pinsAt hb' e)))).2.1⟩
      refine wpAny_assign_Name (store_ok P3 (i := 0) (x := x) (v := v) ?nd ?hi ?hx rv (fun s5 J5 => ?_) ?hfn)
      case nd => exact S.nd
      case hi => exact S.zero
      case hx => exact .inl (lookup_relabel_local S.own)
      case hfn => exact .inr (lookup_relabel_local S.own)
      have J5' : Inv _ _ (some v :: slots σ js) H3 s5 := J5
      refine wpAny_mono (ht _ _ _ _ _ _ _ _ _ J5' (hturn v H3 hy)) (fun ok s6 ⟨H6, J6, q6⟩ => ?_) fun _ _ f => f
      dsimp only at q6
      by_cases hok : ok = true
      · rw [if_pos hok] at q6 ⊢
        refine wpAny_mono (he _ _ _ _ _ _ _ _ _ J6 q6) (fun y s7 ⟨w', H7, J7, r7, hD7, m', hm', w7⟩ => ?_) fun _ _ f => f
        refine wpAny_mono (mt_append (X := cxC X scope _ fp _ _ N') _ _ _ _ (.ref s.heap.objs.size) [w'] (.ref s.heap.objs.size) [y] (fun _ H8 => H8 = upd H7 s.heap.objs.size (.lst (ys ++ [w']))) J7 rfl (.cons r7 .nil) ⟨_, _, _, rfl, rfl, hD7, hz, rfl⟩) (fun _ s8 ⟨_, H8, J8, _, e8⟩ => ?_) fun _ _ f => f
        subst e8
        obtain ⟨k1, k2⟩ := keepT J8
        exact ⟨m', hm', i + 1, ys ++ [w'], _, some v, J8.unpinned, k1, k2, w7⟩
      · rw [if_neg hok] at q6 ⊢
        obtain ⟨_, m', hm', w7⟩ := q6
        obtain ⟨k1, k2⟩ := keepT J6
        exact ⟨m', hm', i + 1, ys, _, some v, J6.unpinned, k1, k2, w7⟩
  refine codeAny_compStart_list loop (T.self X.A 0 _ _ _ t4 loop)
/-- [elt for x in iter if ..] as a value -/
theorem pe_comp {wi : TI} (S : CScope X scope x N' js) (hi : PI X (.Name x px) iter wi) (ht : ∀ C fp s₀ H₀, PTs (cxC X scope C fp s₀ H₀ N') ifs tc) (he : ∀ C fp s₀ H₀, PE (cxC X scope C fp s₀ H₀ N') elt te)
    (hs : ∀ x, foldedSetIterable iter X.env x = pure x := by intro _; rfl) : PE X (.ListComp elt [⟨.Name x px, iter, ifs, 0⟩] scope pos) (tComp wi js tc te) := by
  intro pins s σ H Q I h
  rw [eval_ListComp]
  refine wpAny_comprehension_free (use := none) rfl hs (closureFor_eq (S.cells I.ok)) S.kind S.names (wpAny_mono (hi pins s σ H _ I h) (fun v s1 h1 => ?_) fun _ _ e => e)
  refine wpAny_mono h1 (fun itv s2 ⟨it, fp, tn, J, H2, e, I2, T, t0, hf, R⟩ => ?_) fun _ _ e => e
  subst e
  refine comp_block S I2 T t0 hf ht he R ?_
  intro D H3 s3 σ' H' s' I3 hf3 J3 q
  obtain ⟨m, hm, _⟩ := J3.loc
  exact ⟨m, hm, fun h' hs' => ⟨.ref D, H', cxC_back S I3 hf3 J3 hs', rfl, q⟩⟩
/-- name = [elt for x in iter if ..], where the name is stored ahead of the variables' going -/
theorem ps_setComp {wi : TI} {y : Str} {py spos : Pos} {i : Nat} (S : CScope X scope x N' js) (hN : X.N.Nodup) (hiN : X.N[i]? = some y) (hy : X.env.kindOf y = some .local) (hi : PI X (.Name x px) iter wi) (ht : ∀ C fp s₀ H₀, PTs (cxC X scope C fp s₀ H₀ N') ifs tc) (he : ∀ C fp s₀ H₀, PE (cxC X scope C fp s₀ H₀ N') elt te)
    (hsw : swapsWith (.ListComp elt [⟨.Name x px, iter, ifs, 0⟩] scope pos) (some (.Name y py)) spos.line X.env = pure true) (hs : ∀ x, foldedSetIterable iter X.env x = pure x := by intro _; rfl) :
    PS X (.Assign [.Name y py] (.ListComp elt [⟨.Name x px, iter, ifs, 0⟩] scope pos) spos) (tAsg (tComp wi js tc te) (gName i)) := by
  intro pins s σ H D0 I h
  rw [exec_Assign_Name_used _ _ _ _ hsw]
  refine wpAny_bind (wpAny_standAt (wpAny_bind ?_))
  show wpAny _ X.A (do let _ ← comprehension (.ListComp elt [⟨.Name x px, iter, ifs, 0⟩] scope pos) scope X.env _ (newList []) false (eval iter X.env) (some (assign (.Name y py) X.env))) _ _ s
  refine wpAny_bind (wpAny_mono (wpAny_comprehension_free (use := some (assign (.Name y py) X.env)) (Q := fun _ s' => SP X pins D0 .next s') rfl hs (closureFor_eq (S.cells I.ok)) S.kind S.names (wpAny_mono (hi pins s σ H _ I h) (fun v s1 h1 => ?_) fun _ _ e => e)) (fun _ s' hq => wpAny_pure (wpAny_pure hq)) fun _ _ e => e)
  refine wpAny_mono h1 (fun itv s2 ⟨it, fp, tn, J, H2, e, I2, T, t0, hf, R⟩ => ?_) fun _ _ e => e
  subst e
  refine comp_block (Q := fun v H' => gName i v σ H' D0.nx) S I2 T t0 hf ht he R ?_
  intro D H3 s3 σ' H' s' I3 hf3 J3 q
  obtain ⟨m, hm, _⟩ := J3.loc
  have IX : Inv X pins σ H' s' := cxC_back S I3 hf3 J3 (Heap.SameBut.refl ..)
  have hCL : s3.heap.objs.size ≠ X.env.locals := fun e => by have := I3.lt; rw [e] at this; exact Nat.lt_irrefl _ this
  show wpAny _ X.A (assign (.Name y py) X.env (.ref D)) _ _ _
  refine wpAny_assign_Name (store_ok2 IX hN hiN (.inl hy) (v := .ref D) rfl (fun s5 I5 hsb => ?_) (.inr hy))
  obtain ⟨a, hsb, ha⟩ := hsb
  have hCa : s3.heap.objs.size ≠ a := by
    rcases ha with rfl | ha
    · exact hCL
    · intro e
      obtain ⟨v, o, eo, _⟩ := I3.cell y a ha
      have := Heap.lt_size eo
      rw [← e] at this
      exact Nat.lt_irrefl _ this
  refine ⟨m, hm.sameBut hsb hCa, fun h' hs' => ⟨_, H', ?_, q⟩⟩
  exact I5.turned (it := s3.heap.objs.size) (t' := s5.toks) (fun b o n e => hs'.extBut b o n e) J3.free hCL (.inr I3.sz)
    (fun z c hz e => by
      obtain ⟨v, o, eo, _⟩ := I3.cell z c hz
      have := Heap.lt_size eo
      rw [e] at this
      exact Nat.lt_irrefl _ this)
    (fun p hp e => by
      have := Heap.lt_size (I3.pin p hp).1
      rw [e] at this
      exact Nat.lt_irrefl _ this)
end
end L2

set_option Elab.async false
set_option linter.all false
set_option maxRecDepth 100000
namespace L2
open PySem PySem.Spec PyProof.Rows
/-! ### comprehensions, shut -/
structure PTsw (X : Cx) (ifs : List Expr) (t : TT) : Prop where p : PTs X ifs t
def tMonoE (t : TE) : TE := fun σ H Q => ∃ Q' : VK, t σ H Q' ∧ ∀ v H1, Q' v H1 → Q v H1
theorem PE.mono {X : Cx} {e : Expr} {t : TE} (h : PE X e t) : PE X e (tMonoE t) := fun pins s σ H Q I ⟨Q', h1, h2⟩ =>
  thn (h pins s σ H Q' I h1) fun b s' ⟨v, H', I', r, q⟩ => ⟨v, H', I', r, h2 _ _ q⟩
theorem PTs.mono {X : Cx} {es : List Expr} {t : TT} (h : PTs X es t) : PTs X es (tMono t) := fun pins s σ H Q I ⟨Q', h1, h2⟩ =>
  thn (h pins s σ H Q' I h1) fun b s' ⟨H', I', q⟩ => ⟨H', I', h2 _ _ q⟩
/-- a comprehension's turns, of the source J -/
@[irreducible] def CompB (J : It) (σ : St) (js : List Nat) (tc : TT) (te : TE) (H1 : Hp) (Q : VK) : Prop := ∀ D, H1 D = none → ∃ W : Nat → Nat → List V → Hp → Prop, (∃ m, W 0 m [] (upd H1 D (.lst []))) ∧
  ∀ i m ys H2, W i m ys H2 → H2 D = some (.lst ys) ∧ ((J.stop i H2 ∧ Q (.ref D) H2) ∨ (J.go i H2 ∧ ys.length < sizeLine ∧ ∀ x H3, J.yld i H2 x H3 →
    tMono tc (some x :: slots σ js) H3 fun b H4 => if b = true then tMonoE te (some x :: slots σ js) H4 fun y H5 => H5 D = some (.lst ys) ∧ ∃ m', m' < m ∧ W (i + 1) m' (ys ++ [y]) (upd H5 D (.lst (ys ++ [y])))
      else H4 D = some (.lst ys) ∧ ∃ m', m' < m ∧ W (i + 1) m' ys H4))
def tCompB (wi : TI) (js : List Nat) (tc : TT) (te : TE) : TE := fun σ H Q => wi σ H fun J H1 => CompB J σ js tc te H1 Q
section
variable {X : Cx} {scope : Scope} {x y : Str} {N' : List Str} {js : List Nat} {elt iter c : Expr} {px py pos spos : Pos} {ifs : List Expr} {tc : TT} {te : TE} {wi : TI} {i : Nat}
theorem wts_nil : PTsw X [] tYes := ⟨pts_nil⟩
theorem wts_one {t : TT} (h : PTw X c t) : PTsw X [c] t := ⟨pts_one h.p⟩
theorem we_comp (S : CScope X scope x N' js) (hi : PIw X (.Name x px) iter wi) (ht : ∀ C fp s₀ H₀, PTsw (cxC X scope C fp s₀ H₀ N') ifs tc) (he : ∀ C fp s₀ H₀, PEw (cxC X scope C fp s₀ H₀ N') elt te)
    (hs : ∀ x, foldedSetIterable iter X.env x = pure x := by intro _; rfl) : PEw X (.ListComp elt [⟨.Name x px, iter, ifs, 0⟩] scope pos) (tCompB wi js tc te) :=
  ⟨by unfold tCompB CompB; exact pe_comp S hi.p (fun C fp s₀ H₀ => (ht C fp s₀ H₀).p.mono) (fun C fp s₀ H₀ => (he C fp s₀ H₀).p.mono) hs⟩
theorem ws_setComp (S : CScope X scope x N' js) (hN : X.N.Nodup) (hiN : X.N[i]? = some y) (hy : X.env.kindOf y = some .local) (hi : PIw X (.Name x px) iter wi) (ht : ∀ C fp s₀ H₀, PTsw (cxC X scope C fp s₀ H₀ N') ifs tc) (he : ∀ C fp s₀ H₀, PEw (cxC X scope C fp s₀ H₀ N') elt te)
    (hsw : swapsWith (.ListComp elt [⟨.Name x px, iter, ifs, 0⟩] scope pos) (some (.Name y py)) spos.line X.env = pure true := by rfl) (hs : ∀ x, foldedSetIterable iter X.env x = pure x := by intro _; rfl) :
    PSw X (.Assign [.Name y py] (.ListComp elt [⟨.Name x px, iter, ifs, 0⟩] scope pos) spos) (tAsg (tCompB wi js tc te) (gName i)) :=
  ⟨by unfold tCompB CompB; exact ps_setComp S hN hiN hy hi.p (fun C fp s₀ H₀ => (ht C fp s₀ H₀).p.mono) (fun C fp s₀ H₀ => (he C fp s₀ H₀).p.mono) hsw hs⟩
end
/-- what a comprehension's scope must be, decided -/
def cscOk (psc scope : Scope) (N : List Str) (x : Str) (N' : List Str) (js : List Nat) : Bool :=
  (scope.names.all fun y => !(y.2 == .free) || psc.names.lookup y.1 == some .cell) && (scope.names.all fun y => !(y.2 == .cell)) && scope.kind == .function &&
  (scope.names.all fun y => !(y.2 == .local) || scope.names.lookup y.1 == some .local) && scope.names.lookup x == some .local &&
  (scope.names.all fun y => !(y.2 == .free) || !(scope.names.lookup y.1 == some .local)) && N'.length == js.length + 1 && N'[0]? == some x && decide N'.Nodup &&
  ((List.range js.length).all fun i => match js[i]?, N'[i + 1]? with
    | some j, some y => N[j]? == some y && scope.names.contains (y, NameKind.free)
    | _, _ => false)
theorem CScope.of {X : Cx} {psc scope : Scope} {N : List Str} {x : Str} {N' : List Str} {js : List Nat} (h : cscOk psc scope N x N' js = true) (hX : X.env.scope = psc) (hN : X.N = N) (hc : X.calm = true) : CScope X scope x N' js := by
  unfold cscOk at h
  simp only [Bool.and_eq_true] at h
  obtain ⟨⟨⟨⟨⟨⟨⟨⟨⟨h1, h2⟩, h3⟩, h4⟩, h5⟩, h6⟩, h7⟩, h8⟩, h9⟩, h10⟩ := h
  rw [List.all_eq_true] at h1 h2 h4 h6 h10
  refine ⟨hc, fun y hy e => ?_, fun y hy e => ?_, by simpa using h3, fun y hy e => ?_, by simpa using h5, fun y hy e => ?_, by simpa using h7, by simpa using h8, of_decide_eq_true h9, fun i j hj => ?_⟩
  · have := h1 y hy
    rw [e] at this
    show X.env.scope.names.lookup y.1 = _
    rw [hX]
    simpa using this
  · have := h2 y hy
    rw [e] at this
    simp at this
  · have := h4 y hy
    rw [e] at this
    simpa using this
  · have := h6 _ hy
    rw [e] at this
    simp at this
  · have hi : i < js.length := (List.getElem?_eq_some_iff.mp hj).1
    have := h10 i (List.mem_range.mpr hi)
    rw [hj] at this
    cases q : N'[i + 1]? with
    | none => rw [q] at this; simp at this
    | some y =>
      rw [q] at this
      simp only [Bool.and_eq_true] at this
      exact ⟨y, rfl, by rw [hN]; simpa using this.1, List.contains_iff_mem.mp this.2⟩
/-! ### their readings -/
section
variable {js : List Nat} {te : TE} {tc : TT} {σ : St} {H : Hp} {Q : VK}
/-- any source of n items, no test: src i x is what the i-th item is -/
theorem comp_any {J : It} {n : Nat} (src : Nat → V → Prop) (hz : n ≤ 100000) (Pv : Addr → Nat → List V → Hp → Prop)
    (h0 : ∀ D H1, H D = none → H1 D = some (.lst []) → Same H H1 → Pv D 0 [] H1)
    (hg : ∀ D i ys H', i < n → H' D = some (.lst ys) → Pv D i ys H' → J.go i H' ∧ ∀ x H3, J.yld i H' x H3 → H3 = H' ∧ src i x)
    (hst : ∀ D ys H', H' D = some (.lst ys) → Pv D n ys H' → J.stop n H')
    (hs : ∀ D i x ys H', src i x → i < n → ys.length = i → H' D = some (.lst ys) → Pv D i ys H' → te (some x :: slots σ js) H' fun y H5 => H5 D = some (.lst ys) ∧ ∀ H6, H6 D = some (.lst (ys ++ [y])) → SameBut D H5 H6 → Pv D (i + 1) (ys ++ [y]) H6)
    (hd : ∀ D ys H', ys.length = n → H D = none → H' D = some (.lst ys) → Pv D n ys H' → Q (.ref D) H') :
    CompB J σ js tYes te H Q := by
  unfold CompB
  intro D hD
  refine ⟨fun i m ys H' => m = n - i ∧ i ≤ n ∧ ys.length = i ∧ H' D = some (.lst ys) ∧ Pv D i ys H', ⟨n, by simp, Nat.zero_le _, rfl, upd_same, h0 D _ hD upd_same (Same.upd hD)⟩, ?_⟩
  rintro i m ys H2 ⟨rfl, hi, hy, hD2, p⟩
  refine ⟨hD2, ?_⟩
  by_cases hlt : i < n
  · obtain ⟨g1, g2⟩ := hg D i ys H2 hlt hD2 p
    refine .inr ⟨g1, Nat.lt_of_le_of_lt (m := 100000) (by omega) (by decide), fun x H3 hy3 => ?_⟩
    obtain ⟨rfl, hx⟩ := g2 x H3 hy3
    refine ⟨fun b H4 => b = true ∧ H4 = H3, ⟨rfl, rfl⟩, ?_⟩
    rintro b H4 ⟨rfl, rfl⟩
    rw [if_pos rfl]
    refine ⟨_, hs D i x ys H4 hx hlt hy hD2 p, ?_⟩
    rintro v H5 ⟨hD5, k⟩
    exact ⟨hD5, n - (i + 1), by omega, rfl, hlt, by rw [List.length_append, hy]; rfl, upd_same, k _ upd_same SameBut.self⟩
  · have e : i = n := by omega
    subst e
    exact .inl ⟨hst D ys H2 hD2 p, hd D ys H2 hy hD hD2 p⟩
theorem comp_list {K : PySem.W.Frag} {a : Addr} {xs : List V} (hz : xs.length ≤ 100000) (Pv : Addr → Nat → List V → Hp → Prop)
    (h0 : ∀ D H1, H D = none → H1 D = some (.lst []) → Same H H1 → Pv D 0 [] H1)
    (hl : ∀ D i ys H', i ≤ xs.length → H' D = some (.lst ys) → Pv D i ys H' → SqL K H' a xs)
    (hs : ∀ D i x ys H', xs[i]? = some x → i < xs.length → ys.length = i → H' D = some (.lst ys) → Pv D i ys H' → te (some x :: slots σ js) H' fun y H5 => H5 D = some (.lst ys) ∧ ∀ H6, H6 D = some (.lst (ys ++ [y])) → SameBut D H5 H6 → Pv D (i + 1) (ys ++ [y]) H6)
    (hd : ∀ D ys H', ys.length = xs.length → H D = none → H' D = some (.lst ys) → Pv D xs.length ys H' → Q (.ref D) H') :
    CompB (Itl K a) σ js tYes te H Q :=
  comp_any (J := Itl K a) (fun i x => xs[i]? = some x) hz Pv h0
    (fun D i ys H' hi hD p => by
      have q := hl D i ys H' (Nat.le_of_lt hi) hD p
      exact ⟨⟨xs, xs[i], q, by simp [hi]⟩, fun x H3 y => ⟨y.1, y.2 xs q⟩⟩)
    (fun D ys H' hD p => ⟨xs, hl D _ ys H' (Nat.le_refl _) hD p, Nat.le_refl _⟩) hs hd
theorem comp_range {lo : Int} {n : Nat} (hz : n ≤ 100000) (Pv : Addr → Nat → List V → Hp → Prop)
    (h0 : ∀ D H1, H D = none → H1 D = some (.lst []) → Same H H1 → Pv D 0 [] H1)
    (hs : ∀ D i ys H', i < n → ys.length = i → H' D = some (.lst ys) → Pv D i ys H' → te (some (.int (lo + i)) :: slots σ js) H' fun y H5 => H5 D = some (.lst ys) ∧ ∀ H6, H6 D = some (.lst (ys ++ [y])) → SameBut D H5 H6 → Pv D (i + 1) (ys ++ [y]) H6)
    (hd : ∀ D ys H', ys.length = n → H D = none → H' D = some (.lst ys) → Pv D n ys H' → Q (.ref D) H') :
    CompB (Itr lo n) σ js tYes te H Q :=
  comp_any (J := Itr lo n) (fun i x => x = .int (lo + i)) hz Pv h0 (fun D i ys H' hi hD p => ⟨hi, fun x H3 y => y⟩) (fun D ys H' hD p => Nat.le_refl _)
    (fun D i x ys H' hx hi hy hD p => by subst hx; exact hs D i ys H' hi hy hD p) hd
/-- .. of items that lean on nothing that changes -/
theorem comp_map {K : PySem.W.Frag} {a : Addr} {xs : List V} (R : Nat → V → Prop) (hz : xs.length ≤ 100000) (hl : SqL K H a xs)
    (hs : ∀ i x H' (Q' : VK), xs[i]? = some x → Same H H' → (∀ y H5, Same H' H5 → R i y → Q' y H5) → te (some x :: slots σ js) H' Q')
    (hd : ∀ D ys H', H D = none → H' D = some (.lst ys) → Same H H' → ys.length = xs.length → (∀ (i : Nat) (y : V), ys[i]? = some y → R i y) → Q (.ref D) H') :
    CompB (Itl K a) σ js tYes te H Q := by
  refine comp_list hz (fun D i ys H' => H D = none ∧ Same H H' ∧ ∀ (i : Nat) (y : V), ys[i]? = some y → R i y) (fun D H1 hD _ s => ⟨hD, s, fun i y h => by simp at h⟩) (fun D i ys H' _ _ p => p.2.1.seq hl) (fun D i x ys H' hx _ hy hD p => ?_) (fun D ys H' hy hD hD' p => hd D ys H' hD hD' p.2.1 hy p.2.2)
  refine hs i x H' _ hx p.2.1 fun y H5 s5 r => ?_
  refine ⟨s5 _ _ hD, fun H6 hD6 s6 => ⟨p.1, ?_, fun j z hj => ?_⟩⟩
  · exact Same.thru p.1 (p.2.1.trans s5) s6
  · by_cases hji : j < ys.length
    · rw [List.getElem?_append_left hji] at hj; exact p.2.2 j z hj
    · rw [List.getElem?_append_right (by omega)] at hj
      have : j - ys.length = 0 := by
        by_cases q : j - ys.length = 0
        · exact q
        · rw [List.getElem?_eq_none (by simp; omega)] at hj; cases hj
      rw [this] at hj
      have hj' : y = z := by simpa using hj
      have : j = i := by omega
      subst this hj'
      exact r
end
/-! ### sum of a list of ints; == and != of data -/
@[irreducible] def rSum (K : PySem.W.Frag) : List V → Hp → VK → Prop := fun xs H Q => ∃ (p : Addr) (ns : List Int), xs = [.ref p] ∧ SqL K H p (ns.map V.int) ∧ Q (.int ns.sum) H
@[irreducible] def rEqD (b : Bool) : R2 := fun x y H Q => ∃ d d', Rep H d x ∧ Rep H d' y ∧ SeqAt.shaped d = true ∧ SeqAt.shaped d' = true ∧ Q (.bl (b == PyData.eqv d d')) H
section
variable {X : Cx}
theorem cl_sum (hc : X.calm = true) : CallR X (.builtin "sum") (rSum X.K) := by
  unfold rSum
  intro pins s σ H xs us Q I r h
  obtain ⟨p, ns, rfl, hq, q⟩ := h
  obtain ⟨u, rfl, rx⟩ := vals1 r
  cases rx
  obtain ⟨its, r', pl, hz⟩ := I.list hq
  have hi := intsAre_of r'
  obtain ⟨xs', e⟩ := hi.allInts.items
  rw [e] at pl
  refine sum_intListG (I.ok.hd hc) pl.isList fun h' tk t' hk => ⟨.int ns.sum, H, I.kept hk, ⟨t', ?_⟩, q⟩
  rw [preSum_eq, List.take_of_length_le (by simp)]
  rw [← hi.numsOf]
  have e2 : its = (intItems xs').toList := by rw [← e]
  rw [e2, nums_intItems]
theorem rsI {K : PySem.W.Frag} {H : Hp} {p : Addr} {ns : List Int} {Q : VK} (h : SqL K H p (ns.map V.int)) (q : Q (.int ns.sum) H) : rSum K [.ref p] H Q := by unfold rSum; exact ⟨p, ns, rfl, h, q⟩
theorem op_eqD (hu : X.A.units + 64 < cLine) : OpR X (compareOp .Eq) (rEqD true) := by
  unfold rEqD
  intro pins s σ H x y v u Q I rx ry h
  obtain ⟨d, d', h1, h2, s1, s2, q⟩ := h
  obtain ⟨as, ra⟩ := h1.reads I rx
  obtain ⟨bs, rb⟩ := h2.reads I ry
  exact SeqAt.compareEq_shaped ra rb s1 s2 hu ⟨.bl _, H, I, by show _ = _; simp, q⟩
theorem op_neD (hu : X.A.units + 64 < cLine) : OpR X (compareOp .NotEq) (rEqD false) := by
  unfold rEqD
  intro pins s σ H x y v u Q I rx ry h
  obtain ⟨d, d', h1, h2, s1, s2, q⟩ := h
  obtain ⟨as, ra⟩ := h1.reads I rx
  obtain ⟨bs, rb⟩ := h2.reads I ry
  exact SeqAt.compareNe_shaped ra rb s1 s2 hu ⟨.bl _, H, I, by show _ = _; simp, q⟩
theorem reD {b : Bool} {x y : V} {d d' : PyData} {H : Hp} {Q : VK} (h1 : Rep H d x) (h2 : Rep H d' y) (s1 : SeqAt.shaped d = true) (s2 : SeqAt.shaped d' = true) (q : Q (.bl (b == PyData.eqv d d')) H) : rEqD b x y H Q := by
  unfold rEqD; exact ⟨d, d', h1, h2, s1, s2, q⟩
end
mutual
theorem eqv_refl : ∀ d : PyData, d.hasDict = false → PyData.eqv d d = true
  | .none, _ => by simp [PyData.eqv]
  | .bool _, _ => by simp [PyData.eqv]
  | .int _, _ => by simp [PyData.eqv]
  | .str _, _ => by simp [PyData.eqv]
  | .list xs, h => by simp only [PyData.eqv]; exact eqvAll_refl xs (by simpa [PyData.hasDict] using h)
  | .tuple xs, h => by simp only [PyData.eqv]; exact eqvAll_refl xs (by simpa [PyData.hasDict] using h)
  | .dict _, h => by simp [PyData.hasDict] at h
theorem eqvAll_refl : ∀ ds : List PyData, PyData.hasDictAll ds = false → PyData.eqvAll ds ds = true
  | [], _ => by simp [PyData.eqvAll]
  | d :: ds, h => by
    simp only [PyData.hasDictAll, Bool.or_eq_false_iff] at h
    simp only [PyData.eqvAll, eqv_refl d h.1, eqvAll_refl ds h.2, Bool.and_self]
end
/-! ### data that holds no list: nothing of it lies at a list's address -/
mutual
def flatD : PyData → Bool
  | .list _ => false
  | .dict _ => false
  | .tuple ds => flatDs ds
  | _ => true
def flatDs : List PyData → Bool
  | [] => true
  | d :: ds => flatD d && flatDs ds
end
mutual
theorem Rep.hide {H : Hp} {p : Addr} {xs : List V} (hp : H p = some (.lst xs)) : ∀ {d : PyData} {v : V}, flatD d = true → Rep H d v → Rep (Hide p H) d v
  | .none, _, _, h => h
  | .bool _, _, _, h => h
  | .int _, _, _, h => h
  | .str _, _, _, h => h
  | .list _, _, f, _ => by simp [flatD] at f
  | .dict _, _, f, _ => by simp [flatD] at f
  | .tuple ds, _, f, h => by
    unfold Rep at h ⊢
    obtain ⟨a, ys, rfl, h1, h2⟩ := h
    exact ⟨a, ys, rfl, Hide.of (ne_of h1 hp (by intro z; cases z)) h1, RepL.hide hp (by simpa [flatD] using f) h2⟩
theorem RepL.hide {H : Hp} {p : Addr} {xs : List V} (hp : H p = some (.lst xs)) : ∀ {ds : List PyData} {vs : List V}, flatDs ds = true → RepL H ds vs → RepL (Hide p H) ds vs
  | [], _, _, h => h
  | d :: ds, _, f, h => by
    unfold RepL at h ⊢
    obtain ⟨x, ys, rfl, h1, h2⟩ := h
    simp only [flatDs, Bool.and_eq_true] at f
    exact ⟨x, ys, rfl, Rep.hide hp f.1 h1, RepL.hide hp f.2 h2⟩
end
/-! ### tuples stay -/
def SameT (H H' : Hp) : Prop := ∀ b xs, H b = some (.tup xs) → H' b = some (.tup xs)
theorem SameT.refl (H : Hp) : SameT H H := fun _ _ h => h
theorem SameT.trans {H H1 H2 : Hp} (a : SameT H H1) (b : SameT H1 H2) : SameT H H2 := fun c o h => b c o (a c o h)
theorem Same.t {H H' : Hp} (s : Same H H') : SameT H H' := fun b xs h => s _ _ h
theorem SameBut.t {H H' : Hp} {p : Addr} (s : SameBut p H H') {xs : List V} (hp : H p = some (.lst xs)) : SameT H H' := fun b ys h => s.at (ne_of h hp (by intro z; cases z)) h
mutual
theorem Rep.flat {H H' : Hp} (s : SameT H H') : ∀ {d : PyData} {v : V}, flatD d = true → Rep H d v → Rep H' d v
  | .none, _, _, h => h
  | .bool _, _, _, h => h
  | .int _, _, _, h => h
  | .str _, _, _, h => h
  | .list _, _, f, _ => by simp [flatD] at f
  | .dict _, _, f, _ => by simp [flatD] at f
  | .tuple ds, _, f, h => by
    unfold Rep at h ⊢
    obtain ⟨a, ys, rfl, h1, h2⟩ := h
    exact ⟨a, ys, rfl, s _ _ h1, RepL.flat s (by simpa [flatD] using f) h2⟩
theorem RepL.flat {H H' : Hp} (s : SameT H H') : ∀ {ds : List PyData} {vs : List V}, flatDs ds = true → RepL H ds vs → RepL H' ds vs
  | [], _, _, h => h
  | d :: ds, _, f, h => by
    unfold RepL at h ⊢
    obtain ⟨x, ys, rfl, h1, h2⟩ := h
    simp only [flatDs, Bool.and_eq_true] at f
    exact ⟨x, ys, rfl, Rep.flat s f.1 h1, RepL.flat s f.2 h2⟩
end
theorem RepL.get {H : Hp} : ∀ {ds : List PyData} {vs : List V} {i : Nat} {v : V}, RepL H ds vs → vs[i]? = some v → ∃ d, ds[i]? = some d ∧ Rep H d v
  | [], _, i, v, h, e => by cases (show _ = [] from h); simp at e
  | d :: ds, _, i, v, h, e => by
    unfold RepL at h
    obtain ⟨x, ys, rfl, h1, h2⟩ := h
    cases i with
    | zero => simp at e; subst e; exact ⟨d, rfl, h1⟩
    | succ i =>
      rw [List.getElem?_cons_succ] at e ⊢
      exact RepL.get h2 e
theorem RepL.get' {H : Hp} : ∀ {ds : List PyData} {vs : List V} {i : Nat} {d : PyData}, RepL H ds vs → ds[i]? = some d → ∃ v, vs[i]? = some v ∧ Rep H d v
  | [], _, i, d, h, e => by simp at e
  | d' :: ds, _, i, d, h, e => by
    unfold RepL at h
    obtain ⟨x, ys, rfl, h1, h2⟩ := h
    cases i with
    | zero => simp at e; subst e; exact ⟨x, rfl, h1⟩
    | succ i =>
      rw [List.getElem?_cons_succ] at e ⊢
      exact RepL.get' h2 e
theorem RepL.set {H : Hp} {d : PyData} {v : V} (r : Rep H d v) : ∀ {ds : List PyData} {vs : List V} (i : Nat), RepL H ds vs → RepL H (ds.set i d) (vs.set i v)
  | [], _, i, h => by cases (show _ = [] from h); exact RepL.nil
  | d' :: ds, _, i, h => by
    unfold RepL at h
    obtain ⟨x, ys, rfl, h1, h2⟩ := h
    cases i with
    | zero => exact RepL.cons r h2
    | succ i => exact RepL.cons h1 (RepL.set r i h2)
theorem RepL.snoc {H : Hp} {ds : List PyData} {vs : List V} {d : PyData} {v : V} (h : RepL H ds vs) (r : Rep H d v) : RepL H (ds ++ [d]) (vs ++ [v]) := RepL.append (RepL.cons r RepL.nil) h
theorem bitsOf {i : Int} {n : Nat} (h : i.natAbs < 2 ^ n) : bits i ≤ n := PySem.intBits_le_iff.mpr h
theorem mulB {i j : Int} {n m : Nat} (h1 : i.natAbs < 2 ^ n) (h2 : j.natAbs < 2 ^ m) (hn : n ≤ 1048576 := by decide) (hm : m ≤ 1048576 := by decide) : IntMulOk i j := by
  refine IntMulOk.of_bits ?_ ?_
  · exact Nat.le_trans (bitsOf h1) hn
  · exact Nat.le_trans (bitsOf h2) hm
/-! ### how long a repr is at most -/
mutual
def shW : PyData → Nat
  | .none => 4
  | .bool _ => 5
  | .int _ => 1921
  | .str x => (reprText x).length
  | .list xs => shWs xs + 4
  | .tuple xs => shWs xs + 4
  | .dict _ => 0
def shWs : List PyData → Nat
  | [] => 0
  | x :: xs => shW x + 2 + shWs xs
end
theorem textFrom_le : ∀ (ts : List Str) (k : Nat) (acc : Str), (textFrom k acc ts).length ≤ acc.length + piled ts
  | [], k, acc => by show acc.length ≤ _; omega
  | t :: r, k, acc => by
    have h := textFrom_le r (k + 1) (acc ++ (if k > 0 then ", " else "" : String) ++ t)
    have e : (acc ++ (if k > 0 then ", " else "" : String) ++ t).length = acc.length + (if k > 0 then 2 else 0) + t.length := by
      rw [strLen_append, strLen_append]
      split <;> rfl
    rw [e] at h
    rw [piled_cons]
    show (textFrom (k + 1) _ r).length ≤ _
    refine Nat.le_trans h ?_
    split <;> omega
theorem tupleText_le (ts : List Str) : (tupleText ts).length ≤ piled ts + 4 := by
  unfold tupleText
  rw [strLen_append, strLen_append]
  have e1 : (("(" : Str)).length = 1 := rfl
  have e2 : ((if ts.length == 1 then ",)" else ")" : String) : Str).length ≤ 2 := by split <;> decide
  rw [e1]
  by_cases h : ts = []
  · subst h; have : (Str.join ", " []).length = 0 := rfl
    omega
  · have := join_length_add ts h
    omega
theorem listText_le (ts : List Str) : (listText ts).length ≤ piled ts + 4 := by
  unfold listText
  rw [strLen_append]
  have := textFrom_le ts 0 "["
  have e1 : (("[" : String) : Str).length = 1 := rfl
  have e2 : (("]" : String) : Str).length = 1 := rfl
  rw [e1] at this
  rw [e2]
  omega
mutual
theorem shown_le : ∀ d : PyData, d.showable = true → d.hasDict = false → d.shown.length ≤ shW d
  | .none, _, _ => by simp only [PyData.shown, shW]; decide
  | .bool b, _, _ => by cases b <;> (simp only [PyData.shown, shW]; decide)
  | .int i, h, _ => by
    simp only [PyData.shown, shW]
    exact int_text_len_1921 (by simpa [PyData.showable] using h)
  | .str x, _, _ => by simp only [PyData.shown, shW]; exact Nat.le_refl _
  | .list xs, h, h2 => by
    simp only [PyData.shown, shW]
    have := shownAll_le xs (by simpa [PyData.showable] using h) (by simpa [PyData.hasDict] using h2)
    have := listText_le (PyData.shownAll xs)
    omega
  | .tuple xs, h, h2 => by
    simp only [PyData.shown, shW]
    have := shownAll_le xs (by simpa [PyData.showable] using h) (by simpa [PyData.hasDict] using h2)
    have := tupleText_le (PyData.shownAll xs)
    omega
  | .dict _, _, h => by simp [PyData.hasDict] at h
theorem shownAll_le : ∀ ds : List PyData, PyData.showableAll ds = true → PyData.hasDictAll ds = false → piled (PyData.shownAll ds) ≤ shWs ds
  | [], _, _ => by simp only [PyData.shownAll, shWs]; exact Nat.le_refl _
  | d :: ds, h, h2 => by
    simp only [PyData.showableAll, Bool.and_eq_true] at h
    simp only [PyData.hasDictAll, Bool.or_eq_false_iff] at h2
    have := shown_le d h.1 h2.1
    have := shownAll_le ds h.2 h2.2
    simp only [PyData.shownAll, shWs, piled_cons]
    omega
end
theorem showInt {i : Int} {n : Nat} (h : i.natAbs < 2 ^ n) (hn : n ≤ 1920 := by decide) : PyData.showable (.int i) = true := by
  simp only [PyData.showable]
  refine decide_eq_true (log_of_bits (Nat.le_trans (bitsOf h) hn) (by decide))
/-! ### the same with the written part named: inside a comprehension -/
section
variable {X : Cx} (K : PySem.W.Frag)
theorem ix_seqK (h : X.K = K := by rfl) : IxR X (rIx K) := by subst h; exact ix_seq
theorem cl_lenK (h : X.K = K := by rfl) : CallR X (.builtin "len") (rLen K) := by subst h; exact cl_len
theorem cl_sumK (hc : X.calm = true) (h : X.K = K := by rfl) : CallR X (.builtin "sum") (rSum K) := by subst h; exact cl_sum hc
theorem op_inK (h : X.K = K := by rfl) : OpR X (compareOp .In) (rIn K false) := by subst h; exact op_in_seq
theorem op_notInK (h : X.K = K := by rfl) : OpR X (compareOp .NotIn) (rIn K true) := by subst h; exact op_notIn_seq
theorem sl_listK (h : X.K = K := by rfl) : SlR X (rSlL K) := by subst h; exact sl_list
end
end L2

set_option Elab.async false
set_option linter.all false
set_option maxRecDepth 100000
namespace L2
open PySem
/-! ### an exception's record, by its traceback: none as yet, or the entry T whose flight mark is fl -/
def ExcAt (h : Heap) (a : Addr) (cls : Value) (od : Option Addr) (st : Option (Addr × Value)) : Prop :=
  ∃ oe vs, h.get? a = some oe ∧ oe.cls = cls ∧ oe.dict = od ∧ oe.data = .fields vs ∧ 1 < vs.size ∧
    match st with
    | none => vs[1]? = some .none
    | some (T, fl) => vs[1]? = some (.ref T) ∧ T ≠ a ∧ ∃ oT ts, h.get? T = some oT ∧ oT.data = .fields ts ∧ 3 < ts.size ∧ ts[3]? = some fl
/-- what is kept: all but ex; of fs all but the slots -/
structure Kp (fs ex : List Addr) (h h' : Heap) : Prop where
  keep : ∀ b o, h.get? b = some o → b ∉ fs → b ∉ ex → h'.get? b = some o
  slot : ∀ b o, h.get? b = some o → b ∈ fs → b ∉ ex → ∃ sl, h'.get? b = some { o with slots := sl }
theorem Kp.any {fs ex : List Addr} {h h' : Heap} (k : Kp fs ex h h') {b : Addr} {o : Obj} (e : h.get? b = some o) (n : b ∉ ex) : ∃ sl, h'.get? b = some { o with slots := sl } := by
  by_cases m : b ∈ fs
  · exact k.slot b o e m n
  · exact ⟨o.slots, k.keep b o e m n⟩
theorem Kp.trans {fs ex : List Addr} {h h1 h2 : Heap} (a : Kp fs ex h h1) (b : Kp fs ex h1 h2) : Kp fs ex h h2 where
  keep := fun c o e n1 n2 => b.keep c o (a.keep c o e n1 n2) n1 n2
  slot := fun c o e n1 n2 => by
    obtain ⟨s1, e1⟩ := a.slot c o e n1 n2
    obtain ⟨s2, e2⟩ := b.slot c _ e1 n1 n2
    exact ⟨s2, e2⟩
theorem Kp.mono {fs ex ex' : List Addr} {h h' : Heap} (a : Kp fs ex h h') (hx : ∀ b ∈ ex, b ∈ ex') : Kp fs ex' h h' :=
  ⟨fun b o e n1 n2 => a.keep b o e n1 fun z => n2 (hx b z), fun b o e n1 n2 => a.slot b o e n1 fun z => n2 (hx b z)⟩
def stT : Option (Addr × Value) → List Addr
  | none => []
  | some (T, _) => [T]
section
variable {M : Model} {A : Around} {E : Value → Shared → Prop} {s : Shared} {env : Env} {outer : List Env} {base : Heap} {L a : Addr} {cls : Value} {od : Option Addr}
/-- the new entry is laid and hung onto the exception -/
theorem entry_ok {oe : Obj} {vs : Array Value} {head : Value} {had : Bool} {Q : Unit → Shared → Prop} (hfr : A.frames = some (env :: outer)) (hl : s.heap.FunFrames base (env :: outer)) (hf : env.frame = some L)
    (he : s.heap.get? a = some oe) (hc : oe.cls = cls) (ho : oe.dict = od) (hd : oe.data = .fields vs) (hz : 1 < vs.size)
    (k : ∀ h' T', ExcAt h' a cls od (some (T', rawInt L)) → s.heap.get? T' = none → Kp ((env :: outer).filterMap (·.frame)) [a] s.heap h' → Q () { s with heap := h' }) :
    wpAny M A (do
      let fo ← frameOf env
      let pl ← entryPlaceOf L had
      let en ← EntryCells.newEntry head fo .none (rawInt L) .none pl
      setField (.ref a) 1 en) Q E s := by
  have na : a ∉ (env :: outer).filterMap (·.frame) := fun m => by
    obtain ⟨_, o, e, nf⟩ := hl.mem m
    rw [he] at e
    cases e
    exact nf vs hd
  refine wpAny_bind (wpAny_frameOf_fun hfr hl hf fun h1 so => ?_)
  refine wpAny_bind (wpAny_entryPlaceOf fun pl ip => ?_)
  unfold EntryCells.newEntry newFields
  refine wpAny_bind (wpAny_newObj_type ?_ (ip.sizeOk5 ..))
  have e1 : h1.get? a = some oe := (so.2.1 a na).trans he
  generalize hT : ({ cls := .type "traceback", dict := none, data := .fields ([head, Value.ref L, Value.none, rawInt L, Value.none] ++ (if pl.isEmpty then List.replicate 6 Value.none else pl)).toArray } : Obj) = oT
  have e2 : (h1.push oT).get? a = some oe := Heap.get?_push_of_some _ e1
  refine wpAny_setField e2 hd hz (k _ h1.objs.size ?_ ?_ ?_)
  · have ne : h1.objs.size ≠ a := Nat.ne_of_gt (Heap.lt_size e1)
    have d3 := Obj.data_mapFields hd (·.setIfInBounds 1 (Value.ref h1.objs.size))
    refine ⟨_, _, Heap.get?_update_self _ e2 (Obj.isFreed_of_fields d3), ?_, ?_, d3, by simpa using hz, by simp [hz], ne, oT, _, ?_, by rw [← hT], ?_, ?_⟩
    · rw [Obj.cls_mapFields]; exact hc
    · rw [← ho]
      obtain ⟨_, _, dt, _⟩ := oe
      cases dt <;> rfl
    · rw [Heap.get?_update_other _ _ (Ne.symm ne)]
      exact Heap.get?_push_size h1 (by rw [← hT]; rfl)
    · simp only [List.size_toArray, List.length_append, List.length_cons, List.length_nil] <;> omega
    · simp
  · cases q : s.heap.get? h1.objs.size with
    | none => rfl
    | some o => exact absurd (Heap.lt_size q) (by rw [so.1]; exact Nat.lt_irrefl _)
  · refine ⟨fun b o e n1 n2 => ?_, fun b o e n1 n2 => ?_⟩
    · have e3 : h1.get? b = some o := (so.2.1 b n1).trans e
      have nb : a ≠ b := fun z => n2 (by rw [z]; exact List.mem_cons_self)
      rw [Heap.get?_update_other _ _ nb]
      exact Heap.get?_push_of_some _ e3
    · obtain ⟨sl, e3⟩ := so.2.2 b o e
      have nb : a ≠ b := fun z => n2 (by rw [z]; exact List.mem_cons_self)
      refine ⟨sl, ?_⟩
      rw [Heap.get?_update_other _ _ nb]
      exact Heap.get?_push_of_some _ e3
/-- the frame is noted at an exception that is new, or that comes from a callee -/
theorem note_ok {st : Option (Addr × Value)} {Q : Unit → Shared → Prop} (hfr : A.frames = some (env :: outer)) (hl : s.heap.FunFrames base (env :: outer)) (hf : env.frame = some L)
    (x : ExcAt s.heap a cls od st) (hst : st = none ∨ ∃ T, st = some (T, .none))
    (k : ∀ h' T', ExcAt h' a cls od (some (T', rawInt L)) → s.heap.get? T' = none → Kp ((env :: outer).filterMap (·.frame)) (a :: stT st) s.heap h' → Q () { s with heap := h' }) :
    wpAny M A (noteFrame (.ref a) env) Q E s := by
  obtain ⟨oe, vs, he, hc, ho, hd, hz, x⟩ := x
  unfold noteFrame
  simp only [hf]
  rcases hst with rfl | ⟨T, rfl⟩
  · refine wpAny_bind (wpAny_field he hd x ?_)
    rw [if_neg (by decide)]
    exact entry_ok hfr hl hf he hc ho hd hz k
  · obtain ⟨x1, nT, oT, ts, hT, dT, zT, x3⟩ := x
    refine wpAny_bind (wpAny_field he hd x1 ?_)
    rw [if_pos (by simp)]
    refine wpAny_bind (wpAny_field hT dT x3 ?_)
    rw [if_neg (by simp [rawInt])]
    refine wpAny_bind (wpAny_setField hT dT zT ?_)
    have other : ∀ b, b ≠ T → (s.heap.update T (Obj.mapFields (·.setIfInBounds 3 Value.none))).get? b = s.heap.get? b := fun b hb => Heap.get?_update_other _ _ (Ne.symm hb)
    have nrec : ∀ b o, s.heap.get? b = some o → (∀ ws, o.data ≠ .fields ws) → b ≠ T := fun b o e nf z => by
      subst z; rw [hT] at e; cases e; exact nf ts dT
    refine entry_ok (hfr := hfr) (hl := hl.of_keeps fun b o e nf => ⟨o, (other b (nrec b o e nf)).trans e, rfl⟩) hf ((other a (Ne.symm nT)).trans he) hc ho hd hz fun h' T' y1 y2 y3 => k h' T' y1 ?_ ?_
    · by_cases z : T' = T
      · subst z
        have := Heap.get?_update_self (Obj.mapFields (·.setIfInBounds 3 Value.none)) hT (Obj.isFreed_of_fields (Obj.data_mapFields dT _))
        rw [this] at y2; cases y2
      · rw [← other T' z]; exact y2
    · refine ⟨fun b o e n1 n2 => y3.keep b o ((other b fun z => n2 (by rw [z]; simp [stT])).trans e) n1 fun z => n2 (List.mem_cons.mpr (.inl (List.mem_singleton.mp z))), fun b o e n1 n2 => y3.slot b o ((other b fun z => n2 (by rw [z]; simp [stT])).trans e) n1 fun z => n2 (List.mem_cons.mpr (.inl (List.mem_singleton.mp z)))⟩
/-- the flight mark is taken off -/
theorem land_ok {T : Addr} {fl : Value} {Q : Unit → Shared → Prop} (x : ExcAt s.heap a cls od (some (T, fl)))
    (k : ∀ h', ExcAt h' a cls od (some (T, .none)) → (∀ b o, b ≠ T → s.heap.get? b = some o → h'.get? b = some o) → Q () { s with heap := h' }) : wpAny M A (setFlight (.ref a) none) Q E s := by
  obtain ⟨oe, vs, he, hc, ho, hd, hz, x1, nT, oT, ts, hT, dT, zT, x3⟩ := x
  unfold setFlight
  refine wpAny_bind (wpAny_field he hd x1 ?_)
  rw [if_pos (by simp)]
  refine wpAny_setField hT dT zT (k _ ?_ fun b o hb e => ?_)
  · have d2 := Obj.data_mapFields dT (·.setIfInBounds 3 Value.none)
    exact ⟨oe, vs, by rw [Heap.get?_update_other _ _ nT]; exact he, hc, ho, hd, hz, x1, nT, _, _, Heap.get?_update_self _ hT (Obj.isFreed_of_fields d2), d2, by simpa using zT, by simp [zT]⟩
  · rw [Heap.get?_update_other _ _ (Ne.symm hb)]; exact e
/-- an exception leaves the frame -/
theorem leave_ok {st : Option (Addr × Value)} {Q : Unit → Shared → Prop} (hfr : A.frames = some (env :: outer)) (hl : s.heap.FunFrames base (env :: outer)) (hf : env.frame = some L)
    (x : ExcAt s.heap a cls od st) (hst : st = none ∨ ∃ T, st = some (T, .none))
    (k : ∀ h' T', ExcAt h' a cls od (some (T', .none)) → s.heap.get? T' = none → Kp ((env :: outer).filterMap (·.frame)) (a :: stT st) s.heap h' → Q () { s with heap := h' }) :
    wpAny M A (leaving env (.ref a)) Q E s := by
  unfold leaving
  refine wpAny_bind (note_ok hfr hl hf x hst fun h1 T1 y1 y2 y3 => ?_)
  refine land_ok y1 fun h2 z1 z2 => ?_
  refine k h2 T1 z1 y2 ⟨fun b o e n1 n2 => z2 b o (fun q => ?_) (y3.keep b o e n1 n2), fun b o e n1 n2 => ?_⟩
  · subst q; rw [y2] at e; cases e
  · obtain ⟨sl, e1⟩ := y3.slot b o e n1 n2
    exact ⟨sl, z2 b _ (fun q => by subst q; rw [y2] at e; cases e) e1⟩
end
end L2

set_option Elab.async false
set_option linter.all false
set_option maxRecDepth 100000
namespace L2
open PySem PySem.W PySem.Spec PySem.Calls PyProof.Rows
/-- what of a class of exceptions is read off the text: its attributes go the plain way -/
structure ExcCls (K : Frag) (C : Addr) : Prop where
  ga : findIn K (.ref C) "__getattribute__" = some (some (.builtin "BaseException.__getattribute__"))
  gt : findIn K (.ref C) "__getattr__" = some none
  sub : subIn K (.ref C) (.type "BaseException") = some true
  cls : (clsIn K C).isSome = true
  kc : findIn K (.ref C) "__class__" = some (some (.builtin "object.__class__"))
  kg : specialIn K (.builtin "object.__class__") "__get__" = some (some (.builtin "getset_descriptor.__get__"))
  kt : takesIn K (.builtin "object.__class__") = some true
  ob : mroIn K C (.type "object") = some true
section
variable {prog : Program} {w : World} {A : Around} {E : Value → Shared → Prop} {s : Shared} {K : Frag} {x C : Addr} {ox : Obj} {od : Option Obj} {name : Str}
theorem exc_check {nv : Value} {Q : Unit → Shared → Prop} (c : ExcCls K C) (X : K.In s.heap) (I : InstAt s.heap x ox C od) (h : Q () s) : wpAny (model prog w) A (checkBuiltinCall "BaseException.__getattribute__" ⟨[.ref x, nv], []⟩) Q E s := by
  have hk : builtinKind "BaseException.__getattribute__" = some .slot := by decide +kernel
  have hsp : splitId "BaseException.__getattribute__" = some ("BaseException", "__getattribute__") := by decide +kernel
  have LT := I.type (M := model prog w)
  have LS := looks_subIn (M := model prog w) X c.sub
  have LI : Looks (model prog w) s.heap (isInstance (.ref x) (.type "BaseException")) true := LT.andThen LS
  have ha := F.args_bexc_ga (.ref x) nv
  obtain ⟨hh, g, d, t, os⟩ := s
  simp only [checkBuiltinCall, hk, hsp]
  refine wpAny_bind (LI.at ?_)
  repeat (any_goals (first | assumption | wp_step))
/-- BaseException.__getattribute__(x, name) -/
theorem exc_call {v : Value} {tk : Tok} {R : Result → Shared → Prop} (c : ExcCls K C) (X : K.In s.heap) (I : InstAt s.heap x ox C od) (hf : findObj K C od name = some (.value v)) (h : R (.ok (.ret v)) s) :
    codeAny (model prog w) A (.call (.builtin "BaseException.__getattribute__") ⟨[.ref x, .str name tk], []⟩) R s := by
  refine codeAny_call_builtin F.attr_ValueError.ga.plain F.entry_bexc_ga (exc_check c X I ?_)
  have LT := I.type (M := model prog w)
  have LF := looks_find (M := model prog w) X I hf
  obtain ⟨hh, g, d, t, os⟩ := s
  unfold Builtin.«object.__getattribute__»
  refine wpAny_bind ?_
  repeat (any_goals (first | assumption | (refine LT.at ?_) | (refine LF.at ?_) | wp_step))
theorem exc_callB {g a v : Value} {tk : Tok} {R : Result → Shared → Prop} (c : ExcCls K C) (X : K.In s.heap) (I : InstAt s.heap x ox C od) (hf : findObj K C od name = some (.bind g a))
    (h : ∀ A' R', (R' (.ok (.ret v)) s) → codeAny (model prog w) A' (.call g ⟨[a, .ref x, .ref C], []⟩) R' s) (hq : R (.ok (.ret v)) s) :
    codeAny (model prog w) A (.call (.builtin "BaseException.__getattribute__") ⟨[.ref x, .str name tk], []⟩) R s := by
  refine codeAny_call_builtin F.attr_ValueError.ga.plain F.entry_bexc_ga (exc_check c X I ?_)
  have LT := I.type (M := model prog w)
  have LF := looks_find (M := model prog w) X I hf
  obtain ⟨hh, gg, d, t, os⟩ := s
  unfold Builtin.«object.__getattribute__»
  refine wpAny_bind ?_
  repeat (any_goals (first | assumption | (refine LT.at ?_) | (refine LF.at ?_) | (refine h _ _ ?_) | wp_step))

theorem exc_by {v : Value} {nv : Value} {fill expr : Bool} {Q : Value → Shared → Prop} (c : ExcCls K C) (X : K.In s.heap) (I : InstAt s.heap x ox C od)
    (hc : ∀ A' R', (R' (.ok (.ret v)) s) → codeAny (model prog w) A' (.call (.builtin "BaseException.__getattribute__") ⟨[.ref x, nv], []⟩) R' s) (hv : handedIn v = true) (h : Q v s) : wpAny (model prog w) A (getAttrBy (.ref x) nv fill expr) Q E s := by
  have LT := I.type (M := model prog w)
  have L1 := looks_findIn (M := model prog w) X c.ga
  have L2 := looks_findIn (M := model prog w) X c.gt
  have hb := F.attr_ValueError.ga.bind (.ref x)
  have n0 : (expr && onTheHeap (Value.builtin "BaseException.__getattribute__")) = false := by cases expr <;> rfl
  have n1 : (onTheHeap (Value.ref C) && Value.builtin "BaseException.__getattribute__" == Value.builtin "object.__getattribute__") = false := by
    rw [show (Value.builtin "BaseException.__getattribute__" == Value.builtin "object.__getattribute__") = false by decide +kernel]; rfl
  obtain ⟨hh, g, d, t, os⟩ := s
  unfold getAttrBy
  refine wpAny_holding (wpAny_bind (LT.at (wpAny_bind (L1.at ?_))))
  dsimp only
  rw [if_neg (by rw [n1]; exact Bool.false_ne_true)]
  unfold getAttrByItsOwn hookBefore
  rw [if_pos (show onTheHeap (Value.ref C) = true from rfl)]
  refine wpAny_bind (L2.at (wpAny_bind (wpAny_attempt (wpAny_holding ?_))))
  unfold callGetattribute
  rw [if_neg (by rw [n0]; exact Bool.false_ne_true)]
  unfold boundAndCalled
  refine wpAny_bind (wpAny_of_eq hb (wpAny_call (hc _ _ ?_)))
  exact handed_on hv h
/-- x.name where the exception's own dict (or its class, as a plain value) has it -/
theorem exc_attr {v : Value} {expr : Bool} {Q : Value → Shared → Prop} (c : ExcCls K C) (X : K.In s.heap) (I : InstAt s.heap x ox C od) (hf : findObj K C od name = some (.value v)) (hv : handedIn v = true) (h : Q v { s with toks := s.toks + 1 }) :
    wpAny (model prog w) A (getAttr (.ref x) name expr) Q E s := by
  unfold getAttr
  refine wpAny_bind (wpAny_mkText ?_)
  exact exc_by (s := { s with toks := s.toks + 1 }) c X I (fun A' R' q => exc_call (s := { s with toks := s.toks + 1 }) c X I hf q) hv h
theorem exc_class {Q : Option Value → Shared → Prop} (c : ExcCls K C) (X : K.In s.heap) (I : InstAt s.heap x ox C od) (h : Q (some (.ref C)) { s with toks := s.toks + 1 }) : wpAny (model prog w) A (getAttr? (.ref x) "__class__") Q E s := by
  have hf : findObj K C od "__class__" = some (.bind (.builtin "getset_descriptor.__get__") (.builtin "object.__class__")) := by
    obtain ⟨cd, hc⟩ := Option.isSome_iff_exists.mp c.cls
    unfold findObj
    rw [hc, Option.bind_some, c.kc, Option.bind_some]
    simp [c.kg, c.kt]
  unfold getAttr? getAttrBy?
  refine wpAny_bind (wpAny_mkText (wpAny_bind (wpAny_attempt ?_)))
  refine exc_by (s := { s with toks := s.toks + 1 }) c X I (fun A' R' q => exc_callB (s := { s with toks := s.toks + 1 }) (v := .ref C) c X I hf (fun A'' R'' q' => class_get (s := { s with toks := s.toks + 1 }) (ox := ox) (od := od) X I c.ob q') q) rfl ?_
  exact wpAny_pure h
/-- an exception, for isinstance -/
theorem kitx_exc (c : ExcCls K C) : KitX K (.ref x) (.ref C) (fun h => ∃ ox od, InstAt h x ox C od) where
  ty := fun _ _ _ ⟨_, _, I⟩ => I.type
  it := fun M h X _ => by
    have e := c.cls
    unfold clsIn at e
    split at e
    · rename_i ho
      intro A' Q' E' s' k q
      unfold isType loadHead
      exact wpAny_bind (wpAny_loadPart (k _ _ (X _ _ ho)) (wpAny_pure q))
    · cases e
  ne := fun h tp dd its n sl X htp => by
    refine Bool.eq_false_iff.mpr fun q => ?_
    obtain rfl : C = tp := Value.ref.inj (beq_iff_eq.mp q)
    have e := c.cls
    unfold clsIn at e
    split at e
    · rename_i ho
      have z := (X _ _ ho).symm.trans htp
      cases z
    · cases e
  ca := fun X ⟨_, _, I⟩ k => exc_class c X I k
end
end L2

set_option Elab.async false
set_option linter.all false
set_option maxRecDepth 100000
namespace L2
open PySem PySem.Spec PyProof.Rows
/-! ### what stays while an exception flies -/
section
variable {P : Program} {w : World} {H H1 H2 : Hp} {h h1 h2 base : Heap} {fs fs2 ex : List Addr} {a : Addr} {o : HO}
theorem ObjOk.get (x : ObjOk P w H h a o) : ∃ ob, h.get? a = some ob := by
  cases o with
  | lst xs => obtain ⟨_, _, _, _, e⟩ := x; exact ⟨_, e⟩
  | tup xs => obtain ⟨_, _, _, o, e, _⟩ := x; exact ⟨_, e⟩
  | dK kvs => obtain ⟨_, _, _, _, o, _, _, e, _⟩ := x; exact ⟨_, e⟩
  | dT kvs => obtain ⟨_, _, _, _, o, _, _, e, _⟩ := x; exact ⟨_, e⟩
  | set S n => obtain ⟨o, _, _, _, e, _⟩ := x; exact ⟨_, e⟩
  | ins C dx fs => obtain ⟨_, _, _, e, _⟩ := x; exact ⟨_, e⟩
  | own y => obtain ⟨_, e⟩ := x; exact ⟨_, e⟩
  | xd fs => obtain ⟨_, ⟨_, _, _, e, _⟩, _⟩ := x; exact ⟨_, e⟩
  | rng lo hi => obtain ⟨_, _, _, e⟩ := x; exact ⟨_, e⟩
  | frz ob u => obtain ⟨e, _⟩ := x; exact ⟨_, e⟩
  | tbl ps => exact ⟨_, (show h.get? a = some _ from x)⟩
  | met f y => exact ⟨_, (show h.get? a = some _ from x)⟩
  | ext φ => obtain ⟨_, e, _⟩ := x; exact e
theorem HOk.kp (x : HOk P w H h) (k : Kp fs ex h h1) (hf : ∀ b ∈ fs, H b = none) (he : ∀ b ∈ ex, H b = none) : HOk P w H h1 := fun a o e =>
  (x a o e).stay (fun b u hb q => by
    have nb : H b ≠ none := by
      rcases hb with rfl | hb
      · rw [e]; simp
      · rw [hb]; simp
    exact k.keep b u q (fun z => nb (hf b z)) fun z => nb (he b z)) (fun _ q => q) fun _ _ q => q
theorem Un.tr (u : Un fs [] H H1 h h1) (v : Un fs2 [] H1 H2 h1 h2) (hf : ∀ b ∈ fs2, b ∈ fs ∨ h.get? b = none) : Un fs [] H H2 h h2 where
  keep := fun b o e n m _ => v.keep b o (u.keep b o e n m (by simp)) (u.free b o e n (by simp)) (fun z => (hf b z).elim m fun q => by rw [e] at q; cases q) (by simp)
  slot := fun b o e n m _ => by
    obtain ⟨s1, e1⟩ := u.slot b o e n m (by simp)
    obtain ⟨s2, e2⟩ := v.any e1 (u.free b o e n (by simp)) (by simp)
    exact ⟨s2, e2⟩
  free := fun b o e n _ => by
    obtain ⟨o1, e1⟩ := u.there b o e (by simp)
    exact v.free b o1 e1 (u.free b o e n (by simp)) (by simp)
  there := fun b o e _ => by
    obtain ⟨o1, e1⟩ := u.there b o e (by simp)
    exact v.there b o1 e1 (by simp)
  tups := fun b xs e => v.tups b xs (u.tups b xs e)
  frzs := fun b ob xs e => v.frzs b ob xs (u.frzs b ob xs e)
  tbls := fun b ps e => by
    obtain ⟨m1, e1⟩ := u.tbls b ps e
    obtain ⟨m2, e2⟩ := v.tbls b _ e1
    exact ⟨m1 ++ m2, by rw [e2, Array.append_assoc]⟩
theorem Un.kp (u : Un fs [] H H1 h h1) (k : Kp fs2 ex h1 h2) (hf : ∀ b ∈ fs2, b ∈ fs ∨ h.get? b = none) (he : ∀ b ∈ ex, h.get? b = none) : Un fs [] H H1 h h2 where
  keep := fun b o e n m _ => k.keep b o (u.keep b o e n m (by simp)) (fun z => (hf b z).elim m fun q => by rw [e] at q; cases q) fun z => by rw [he b z] at e; cases e
  slot := fun b o e n m _ => by
    obtain ⟨s1, e1⟩ := u.slot b o e n m (by simp)
    obtain ⟨s2, e2⟩ := k.any e1 fun z => by rw [he b z] at e; cases e
    exact ⟨s2, e2⟩
  free := u.free
  there := fun b o e _ => by
    obtain ⟨o1, e1⟩ := u.there b o e (by simp)
    obtain ⟨s2, e2⟩ := k.any e1 fun z => by rw [he b z] at e; cases e
    exact ⟨_, e2⟩
  tups := u.tups
  frzs := u.frzs
  tbls := u.tbls
/-- a thing that is new since h is tracked -/
theorem Un.put {u : HO} (x : Un fs [] H H1 h h1) (ha : h.get? a = none) (hn : H1 a = none) : Un fs [] H (upd H1 a u) h h1 where
  keep := x.keep
  slot := x.slot
  free := fun b ob e n m => by rw [upd_ne (fun z => by subst z; rw [ha] at e; cases e)]; exact x.free b ob e n m
  there := x.there
  tups := fun b xs e => by rw [upd_ne (ne_of_none (x.tups b xs e) hn)]; exact x.tups b xs e
  frzs := fun b ob xs e => by rw [upd_ne (ne_of_none (x.frzs b ob xs e) hn)]; exact x.frzs b ob xs e
  tbls := fun b ps e => by
    obtain ⟨m, q⟩ := x.tbls b ps e
    exact ⟨m, by rw [upd_ne (ne_of_none q hn)]; exact q⟩
theorem HOk.put {u : HO} (x : HOk P w H h) (hn : H a = none) (new : ObjOk P w (upd H a u) h a u) : HOk P w (upd H a u) h := fun b v e => by
  by_cases hb : b = a
  · subst hb; rw [upd_same] at e; cases e; exact new
  · rw [upd_ne hb] at e
    exact (x b v e).stay (fun c q _ r => r) (fun c q => by rw [upd_ne (ne_of_none q hn)]; exact q) fun c xs q => by rw [upd_ne (ne_of_none q hn)]; exact q
theorem funFrames_kp : ∀ {l : List Env}, (∀ b ∈ frs l, ∀ o, h.get? b = some o → ∃ sl, h1.get? b = some { o with slots := sl }) → h.FunFrames base l → h1.FunFrames base l
  | [], _, _ => trivial
  | env :: r, k, ⟨hk, ⟨L, o, hf, hn, ho, hd⟩, hr⟩ => by
    have hL : L ∈ frs (env :: r) := List.mem_filterMap.mpr ⟨env, List.mem_cons_self, hf⟩
    obtain ⟨sl, e⟩ := k L hL o ho
    refine ⟨hk, ⟨L, _, hf, hn, e, hd⟩, funFrames_kp (fun b hb => k b ?_) hr⟩
    obtain ⟨e', m, q⟩ := List.mem_filterMap.mp hb
    exact List.mem_filterMap.mpr ⟨e', List.mem_cons_of_mem _ m, q⟩
end
/-- how an exception lies behind a call -/
def CX1 (P : Program) (w : World) : CXT := fun outer H s E e s' => ∃ (a T : Addr) (cls : Value) (od : Option Addr) (H' : Hp), e = .ref a ∧ s'.os = s.os ∧ AllBare s'.gens ∧ Un (frs outer) [] H H' s.heap s'.heap ∧ HOk P w H' s'.heap ∧
  s.heap.get? a = none ∧ s.heap.get? T = none ∧ H' a = none ∧ H' T = none ∧ ExcAt s'.heap a cls od (some (T, .none)) ∧ E cls od H'
structure XPass (X : Cx) (Ex : St → XK) : Prop where
  p : ∀ (pins : List (Addr × Obj)) (σ : St) (H : Hp) (s : Shared) (e : Value) (s' : Shared), Inv X pins σ H s → CX1 X.prog X.w X.stack H s (Ex σ) e s' → X.xe e s'
structure XMade (X : Cx) (Ex : St → XK) : Prop where
  p : ∀ (pins : List (Addr × Obj)) (σ : St) (H : Hp) (s : Shared) (h' : Heap) (tk : Nat) (a : Addr) (cls : Value) (od : Option Addr), Inv X pins σ H s → (∀ b o, s.heap.get? b = some o → h'.get? b = some o) → s.heap.get? a = none → H a = none →
    ExcAt h' a cls od none → Ex σ cls od H → X.xe (.ref a) { s with heap := h', toks := tk }
section
variable {P : Program} {w : World} {K : PySem.W.Frag} {mg : Str → Option Value} {base : Heap} {N : List Str} {qual : Str} {scope : Scope} {f : Addr} {cd : Value} {A : Around} {outer : List Env} {s : Shared} {H : Hp} {E : XK}
/-- an exception leaves a def's body -/
theorem leave_fn {pins : List (Addr × Obj)} {σ : St} {H1 H2 : Hp} {s1 s2 : Shared} {a : Addr} {cls : Value} {od : Option Addr} {st : Option (Addr × Value)}
    (I : Inv (cxOf (CX1 P w) P w K mg base N qual scope f cd A outer s H E) pins σ H1 s1) (os : s2.os = s1.os) (bare : AllBare s2.gens)
    (un : Un (frs (cxOf (CX1 P w) P w K mg base N qual scope f cd A outer s H E).stack) [] H1 H2 s1.heap s2.heap) (hok : HOk P w H2 s2.heap) (x : ExcAt s2.heap a cls od st) (hst : st = none ∨ ∃ T, st = some (T, .none))
    (fa : s1.heap.get? a = none) (na : H2 a = none) (fT : ∀ T ∈ stT st, s1.heap.get? T = none) (nT : ∀ T ∈ stT st, H2 T = none) (q : E cls od H2) :
    (cxOf (CX1 P w) P w K mg base N qual scope f cd A outer s H E).xe (.ref a) s2 := by
  have hff : s2.heap.FunFrames (cxOf (CX1 P w) P w K mg base N qual scope f cd A outer s H E).base (cxOf (CX1 P w) P w K mg base N qual scope f cd A outer s H E).stack :=
    funFrames_kp (fun b hb o e => un.any e (I.stkFree b hb) (by simp)) I.stack
  have old : ∀ b, s1.heap.get? b = none → s.heap.get? b = none := fun b e => by
    cases q : s.heap.get? b with
    | none => rfl
    | some o =>
      obtain ⟨o', e'⟩ := I.base.there b o q (by intro z; cases z)
      rw [e] at e'; cases e'
  have old2 : ∀ b, s2.heap.get? b = none → s1.heap.get? b = none := fun b e => by
    cases q : s1.heap.get? b with
    | none => rfl
    | some o =>
      obtain ⟨o', e'⟩ := un.there b o q (by simp)
      rw [e] at e'; cases e'
  have hfs : ∀ b ∈ frs (cxOf (CX1 P w) P w K mg base N qual scope f cd A outer s H E).stack, b ∈ frs outer ∨ s.heap.get? b = none := fun b hb => by
    have hb' : b ∈ s.heap.objs.size :: frs outer := hb
    rcases List.mem_cons.mp hb' with z | z
    · right
      rw [z]
      exact Heap.get?_none_of_le (Nat.le_refl _)
    · exact .inl z
  show wpAny (model P w) (A.deeper (envOfC qual scope s.heap.objs.size f cd)) (leaving (envOfC qual scope s.heap.objs.size f cd) (.ref a)) _ _ s2
  refine leave_ok I.ok.frames hff rfl x hst fun h3 T3 y1 y2 y3 => ?_
  have hfree : ∀ b ∈ frs (cxOf (CX1 P w) P w K mg base N qual scope f cd A outer s H E).stack, H2 b = none := fun b hb => by
    have ff := I.stack
    obtain ⟨_, o, ho, _⟩ := ff.mem hb
    exact un.free b o ho (I.stkFree b hb) (by simp)
  have hex : ∀ b ∈ a :: stT st, s1.heap.get? b = none := fun b hb => by
    rcases List.mem_cons.mp hb with rfl | hb
    · exact fa
    · exact fT b hb
  refine ⟨a, T3, cls, od, H2, rfl, os.trans I.os, bare, ((I.base.tr un hfs).kp y3 hfs fun b hb => old b (hex b hb)), hok.kp y3 hfree (fun b hb => ?_), old a fa, old T3 (old2 T3 y2), na, ?_, y1, q⟩
  · rcases List.mem_cons.mp hb with rfl | hb
    · exact na
    · exact nT b hb
  · cases z : H2 T3 with
    | none => rfl
    | some u =>
      obtain ⟨ob, e⟩ := (hok T3 u z).get
      rw [y2] at e; cases e
theorem xpass_fn : XPass (cxOf (CX1 P w) P w K mg base N qual scope f cd A outer s H E) (fun _ => E) := ⟨fun pins σ H1 s1 e s2 I hc => by
  obtain ⟨a, T, cls, od, H2, rfl, os, bare, un, hok, fa, fT, na, nT, x, q⟩ := hc
  exact leave_fn I os bare un hok x (.inr ⟨T, rfl⟩) fa na (fun b hb => by cases List.mem_singleton.mp hb; exact fT) (fun b hb => by cases List.mem_singleton.mp hb; exact nT) q⟩
theorem xmade_fn : XMade (cxOf (CX1 P w) P w K mg base N qual scope f cd A outer s H E) (fun _ => E) := ⟨fun pins σ H1 s1 h' tk a cls od I k fa na x q =>
  leave_fn (s2 := { s1 with heap := h', toks := tk }) I rfl I.bare (Un.kept k) (I.hok.kept k) x (.inl rfl) fa na (fun b hb => by cases hb) (fun b hb => by cases hb) q⟩
/-- a def that raises nothing, beside those that do -/
theorem FnOk.lift {CX : CXT} {k : Nat} {fd : FuncData} {ps : List Str} {sp : Sp} (F : FnOk P w K mg base CX0 k f fd ps sp) : FnOk P w K mg base CX k f fd ps sp :=
  ⟨F.len, fun A outer s H args us vs Q E hr e0 hb hv h => codeAny_mono (F.run A outer s H args us vs Q E hr e0 hb hv h) fun r s' q => by
    cases r with
    | error e => exact False.elim q
    | ok fl => cases fl <;> exact q⟩
end
/-! ### calls of defs that may raise -/
def tCallX (sp : Sp) (Ex : St → XK) (t : TA) : TE := fun σ H Q => t σ H fun vs H1 => sp vs H1 Q (Ex σ)
section
variable {X : Cx} {k : Nat} {f C : Addr} {fd : FuncData} {ps : List Str} {sp : Sp} {Ex : St → XK} {x : Str} {p pos np cpos : Pos} {e : Expr} {es : List Expr} {t : TA}
theorem run_fnX {pins : List (Addr × Obj)} {σ : St} {H : Hp} {s : Shared} {Q : VK} {us : List Value} {vs : List V} (F : FnOk X.prog X.w X.K X.mg X.base (CX1 X.prog X.w) k f fd ps sp) (hr : Room k X.A) (hb : Binds X.K fd ps []) (hx : XPass X Ex)
    (I : Inv X pins σ H s) (r : Vals vs us) (h : sp vs H Q (Ex σ)) : wpAny (model X.prog X.w) X.A (call (.ref f) us) (EP X pins σ Q) X.xe s := by
  have hl : (us ++ []).length = ps.length := by rw [List.append_nil, ← r.length]; exact F.len _ _ _ _ h
  have hbt := hb s us I.kIn hl
  rw [List.append_nil] at hbt
  refine wpAny_call (codeAny_mono (F.run X.A X.stack s H ⟨us, []⟩ us vs Q (Ex σ) hr I.env0 hbt r h) fun r s' hq => ?_)
  cases r with
  | error e => exact hx.p pins σ H s e s' I hq
  | ok fl =>
    cases fl with
    | ret u => exact I.after hq
    | next => exact False.elim hq
    | brk => exact False.elim hq
    | cont => exact False.elim hq
theorem we_fnX (F : FnC (CX1 X.prog X.w) X.prog X.w X.K X.mg X.base k x ps sp) (hr : Room k X.A) (hx : XPass X Ex) (ha : PAw X (e :: es) t) (hg : Gl X x := by rfl)
    (hdb : (x == ("__debug__" : Str)) = false := by decide) (he : starEach (e :: es) X.env = (false, eval e X.env) :: starEach es X.env := by first | exact se_Name | exact se_Constant | exact se_BoolOp | exact se_BinOp | exact se_UnaryOp | exact se_IfExp | exact se_Dict | exact se_ListComp | exact se_Compare | exact se_Call | exact se_Attribute | exact se_Subscript | exact se_List | exact se_Tuple | exact se_JoinedStr | exact se_GeneratorExp)
    (hpl : (backTo pos (starEach es X.env)).any (·.1) = false := by repeat (first | exact ap_nil | refine ap_cons (by first | exact se_Name | exact se_Constant | exact se_BoolOp | exact se_BinOp | exact se_UnaryOp | exact se_IfExp | exact se_Dict | exact se_ListComp | exact se_Compare | exact se_Call | exact se_Attribute | exact se_Subscript | exact se_List | exact se_Tuple | exact se_JoinedStr | exact se_GeneratorExp) ?_)) :
    PEw X (.Call (.Name x p) (e :: es) [] pos) (tCallX sp Ex t) := ⟨by
  obtain ⟨f, fd, h1, h2, h3, h4⟩ := F.ex
  intro pins s σ H Q I h
  refine wpAny_Call_Name_kw (ld_glob I hg h2 ?_ hdb)
  refine PySem.W.callWith_K (h₀ := X.base) I.ok.mod.kin h3 (thn (ha.p pos pins s σ H _ I h) fun us s1 ⟨vs, H1, I1, r, q⟩ => ⟨I1.kIn, ?_⟩) he hpl
  exact run_fnX h1 hr h4 hx I1 r q⟩
end
/-- THE RULE for a def that may raise -/
theorem Fun.okx {P : Program} {w : World} {K : PySem.W.Frag} {mg : Str → Option Value} {base : Heap} {x qual : Str} {st : Stmt} {f : Addr} {fd : FuncData} {N ps : List Str} {k : Nat} {sp : Sp} (F : Fun K x qual st f fd) (S : FnScope N ps (defScope st)) (len : ∀ vs H Q E, sp vs H Q E → vs.length = ps.length)
    (hbody : ∀ (cdv : Value) (A : Around) (outer : List Env) (s : Shared) (H : Hp) (vs : List V) (Q : VK) (E : XK), Room k (A.deeper (envOfC qual (defScope st) s.heap.objs.size f cdv)) → sp vs H Q E →
      XPass (cxOf (CX1 P w) P w K mg base N qual (defScope st) f cdv A outer s H E) (fun _ => E) → XMade (cxOf (CX1 P w) P w K mg base N qual (defScope st) f cdv A outer s H E) (fun _ => E) →
      ∃ t, PSsw (cxOf (CX1 P w) P w K mg base N qual (defScope st) f cdv A outer s H E) (defBody st) t ∧ t { nx := fun _ H' => Q .non H', rt := Q } (start N vs) H) : FnOk P w K mg base (CX1 P w) (k + 1) f fd ps sp := by
  obtain ⟨oc, od, kV, doc, pm, an, cdv, ct, osl, rfl, lk, hcd⟩ := F.ex
  refine fn_of lk hcd S len fun A outer s H vs Q E hr hsp => ?_
  obtain ⟨t, h, q⟩ := hbody cdv A outer s H vs Q E hr hsp xpass_fn xmade_fn
  exact ⟨t, h.p, q⟩
/-! ### raise C(..) of an own class that has no __init__ -/
theorem exc_obj {K : PySem.W.Frag} {h : Heap} {C : Addr} {bmB : List Value} {newId : String} (X : K.In h) (q : PySem.W.excIn K C bmB newId = true) :
    ∃ bm N nm qn bs hdct sn sub ab col dd k0 k1 k2 k3 k5 mN, h.get? C = some (excClassObj nm qn C N bs bm hdct sn sub ab col dd k0 k1 k2 k3 k5 newId) ∧ h.Ns N mN ∧ mN "__init__" = none ∧ OwnTail h bmB bm := by
  unfold PySem.W.excIn at q
  cases e : K.lookup C with
  | none => rw [e] at q; cases q
  | some o =>
    rw [e] at q
    obtain ⟨oc, dd, dt, sl⟩ := o
    split at q
    · rename_i _ dd' cd sl' ho
      cases ho
      split at q
      · rename_i C' bm k0 k1 k2 k3 n k5 hm hs
        rw [Bool.and_eq_true, Bool.and_eq_true, Bool.and_eq_true, Bool.and_eq_true, Bool.and_eq_true] at q
        obtain ⟨⟨⟨⟨⟨q1, q2⟩, q3⟩, q4⟩, q5⟩, q6⟩ := q
        have q1 : C' = C := by simpa using q1
        have q2 : n = newId := by simpa using q2
        have q3 : cd.hasDel = false := by simpa using q3
        have q6 : PySem.W.nsIn K cd.ns "__init__" = some none := by simpa using q6
        subst q1 q2
        obtain ⟨nm, bs, mro, ns, qn, hd, sn, sub, ab, col, del⟩ := cd
        cases hm
        cases q3
        obtain ⟨l⟩ := sl
        cases hs
        exact ⟨bm, ns, nm, qn, bs, hd, sn, sub, ab, col, dd, k0, k1, k2, k3, k5, _, X _ _ e, .of_isNs (PySem.W.isNs_of_in X q5), PySem.W.nsMap_none_of_in X q5 q6, PySem.W.tail_of_in X q4⟩
      · cases q
    · cases q
theorem MadeExcOf.at {h h' : Heap} {a : Addr} {cls : Value} {args : List Value} (x : Heap.MadeExcOf h h' a cls args) : ExcAt h' a cls none none := by
  obtain ⟨t, e, _, _⟩ := x.there
  exact ⟨_, _, e, rfl, rfl, rfl, by show 1 < 6; decide, rfl⟩
def tRaise (cls : Value) (Ex : St → XK) (t : TA) : TS := fun _ σ H => t σ H fun vs H1 => vs.length ≤ 64 ∧ Ex σ cls none H1
abbrev mroVE : List Value := [.type "ValueError", .type "Exception", .type "BaseException", .type "object"]
section
variable {X : Cx} {C : Addr} {Ex : St → XK} {x : Str} {pos np cpos : Pos} {e : Expr} {es : List Expr} {t : TA}
theorem ws_raise (q : PySem.W.excIn X.K C mroVE "ValueError.__new__" = true) (hm : X.mg x = some (.ref C)) (hc : X.calm = true) (hx : XMade X Ex) (ha : PAw X (e :: es) t) (hg : Gl X x := by rfl)
    (hdb : (x == ("__debug__" : Str)) = false := by decide) (he : starEach (e :: es) X.env = (false, eval e X.env) :: starEach es X.env := by first | exact se_Name | exact se_Constant | exact se_BoolOp | exact se_BinOp | exact se_UnaryOp | exact se_IfExp | exact se_Dict | exact se_ListComp | exact se_Compare | exact se_Call | exact se_Attribute | exact se_Subscript | exact se_List | exact se_Tuple | exact se_JoinedStr | exact se_GeneratorExp)
    (hpl : (backTo cpos (starEach es X.env)).any (·.1) = false := by repeat (first | exact ap_nil | refine ap_cons (by first | exact se_Name | exact se_Constant | exact se_BoolOp | exact se_BinOp | exact se_UnaryOp | exact se_IfExp | exact se_Dict | exact se_ListComp | exact se_Compare | exact se_Call | exact se_Attribute | exact se_Subscript | exact se_List | exact se_Tuple | exact se_JoinedStr | exact se_GeneratorExp) ?_)) :
    PSw X (.Raise (some (.Call (.Name x np) (e :: es) [] cpos)) none pos) (tRaise (.ref C) Ex t) := ⟨by
  intro pins s σ H D I h
  obtain ⟨bm, N, nm, qn, bs, hdct, sn, sub, ab, col, dd, k0, k1, k2, k3, k5, mN, hC, hN, hni, TL⟩ := exc_obj I.ok.mod.kin q
  have FB := PySem.F.excBase_ValueError
  refine wpAny_Raise_call_subT (C := C) (nm := nm) (q := qn) (N := N) (bs := bs) (bm := bm) (hdct := hdct) (sn := sn) (sub := sub) (ab := ab) (col := col) (dd := dd) (k0 := k0) (k1 := k1) (k2 := k2) (k3 := k3) (k5 := k5) FB (mN := mN)
    (TL.hasType FB.hasBase) (I.ok.hd hc) ?_ hni (ld_glob I hg hm ⟨rfl, ?_⟩ hdb)
  · rw [he]
    show (false || (backTo cpos (starEach es X.env)).any (·.1)) = false
    rw [hpl]; rfl
  · have hA := ha.p cpos pins s σ H _ I h
    rw [he] at hA ⊢
    refine Calls.evalArgs_plain (thn hA fun us s1 ⟨vs, H1, I1, r, hz, q⟩ => ⟨rfl, ?_, I1.bk _ _ hC, hN.keeps I1.bk, TL.keeps I1.bk, fun h' a x => ?_⟩)
    · rw [← r.length]; exact small64 hz
    · have fresh := x.new
      have na : H1 a = none := by
        cases z : H1 a with
        | none => rfl
        | some u => obtain ⟨ob, e⟩ := (I1.hok a u z).get; rw [fresh] at e; cases e
      exact hx.p pins σ H1 s1 h' s1.toks a _ none I1 x.keeps fresh na (MadeExcOf.at x) q⟩
end
end L2

set_option Elab.async false
set_option linter.all false
set_option maxRecDepth 100000
namespace L2
open PySem PySem.Spec PyProof.Rows
/-! ### an exception that was caught -/
def ExcO (a C : Addr) (od : Option Addr) : HO := .ext fun h => ∃ oe vs, h.get? a = some oe ∧ oe.cls = .ref C ∧ oe.dict = od ∧ oe.data = .fields vs ∧ 1 < vs.size
theorem ExcO.ok {P : Program} {w : World} {H : Hp} {h : Heap} {a C : Addr} {od : Option Addr} {st : Option (Addr × Value)} (x : ExcAt h a (.ref C) od st) : ObjOk P w H h a (ExcO a C od) := by
  obtain ⟨oe, vs, h1, h2, h3, h4, h5, _⟩ := x
  refine ⟨⟨oe, vs, h1, h2, h3, h4, h5⟩, ⟨oe, h1⟩, ?_⟩
  rintro g1 g2 ⟨oe, vs, e1, e2, e3, e4, e5⟩ k
  exact ⟨oe, vs, k _ e1, e2, e3, e4, e5⟩
theorem exc_inst {X : Cx} {pins : List (Addr × Obj)} {σ : St} {H : Hp} {s : Shared} {a C : Addr} (I : Inv X pins σ H s) (h : H a = some (ExcO a C none)) : ∃ ox od, PySem.W.InstAt s.heap a ox C od := by
  obtain ⟨⟨oe, vs, e1, e2, e3, e4, _⟩, _⟩ := I.hok a _ h
  exact ⟨oe, none, ⟨e1, e2, by unfold PySem.W.notCls; rw [e4], by rw [e3]; trivial⟩⟩
/-- isinstance(e, c), c one class or a tuple of classes -/
@[irreducible] def rIsX (K : PySem.W.Frag) : List V → Hp → VK → Prop := fun xs H Q => ∃ a C c b, xs = [.ref a, c] ∧ H a = some (ExcO a C none) ∧ ExcCls K C ∧
  ((∃ u, RelV c u ∧ PySem.W.kitOne K (.ref C) u = some b) ∨ ∃ tp cs, c = .ref tp ∧ H tp = some (.tup cs) ∧ ∀ us, Vals cs us → PySem.W.kitAny K (.ref C) us = some b) ∧ Q (.bl b) H
theorem cl_isiX {X : Cx} : CallR X (.builtin "isinstance") (rIsX X.K) := by
  unfold rIsX
  intro pins s σ H xs us Q I r h
  obtain ⟨a, C, c, b, rfl, ha, ec, hc, q⟩ := h
  obtain ⟨u, w', rfl, r1, r2⟩ := vals2 r
  cases (show u = Value.ref a from r1)
  have hi := exc_inst I ha
  rcases hc with ⟨u, ru, e⟩ | ⟨tp, cs, rfl, ht, e⟩
  · have : w' = u := by
      cases c with
      | ref p => cases ru; cases r2; rfl
      | ty n => cases ru; cases r2; rfl
      | non => cases ru; cases r2; rfl
      | bl _ => cases ru; cases r2; rfl
      | int i => obtain ⟨t, rfl⟩ := ru; simp [PySem.W.kitOne, PySem.W.kitCls] at e
      | str i => obtain ⟨t, rfl⟩ := ru; simp [PySem.W.kitOne, PySem.W.kitCls] at e
      | byt i => obtain ⟨t, rfl⟩ := ru; simp [PySem.W.kitOne, PySem.W.kitCls] at e
      | flt i => obtain ⟨t, rfl⟩ := ru; simp [PySem.W.kitOne, PySem.W.kitCls] at e
    subst this
    exact PySem.W.kia_one (kitx_exc ec) I.kIn hi e (fun z => nomatch z) fun tk => ⟨.bl b, H, I.tok _, rfl, q⟩
  · cases (show w' = Value.ref tp from r2)
    obtain ⟨_, its, rt, o, e1, e2, n, e3⟩ := (show ObjOk X.prog X.w H s.heap tp (.tup cs) from I.hok tp _ ht)
    obtain ⟨oc, odd, odt, osl⟩ := o
    cases e2
    cases e3
    exact PySem.W.kia_tup (kitx_exc ec) I.kIn hi e1 (e its rt) (fun z => nomatch z) fun tk => ⟨.bl b, H, I.tok _, rfl, q⟩
theorem rxOne {K : PySem.W.Frag} {H : Hp} {Q : VK} {a C : Addr} {c : V} {b : Bool} (ha : H a = some (ExcO a C none)) (ec : ExcCls K C) (u : Value) (ru : RelV c u) (e : PySem.W.kitOne K (.ref C) u = some b) (q : Q (.bl b) H) : rIsX K [.ref a, c] H Q := by
  unfold rIsX; exact ⟨a, C, c, b, rfl, ha, ec, .inl ⟨u, ru, e⟩, q⟩
theorem rxTup {K : PySem.W.Frag} {H : Hp} {Q : VK} {a C tp : Addr} {cs : List V} {b : Bool} (ha : H a = some (ExcO a C none)) (ec : ExcCls K C) (ht : H tp = some (.tup cs)) (e : ∀ us, Vals cs us → PySem.W.kitAny K (.ref C) us = some b) (q : Q (.bl b) H) : rIsX K [.ref a, .ref tp] H Q := by
  unfold rIsX; exact ⟨a, C, _, b, rfl, ha, ec, .inr ⟨tp, cs, rfl, ht, e⟩, q⟩
/-! ### try: .. except C as n: .. -/
def Cx.tryW (X : Cx) (pins : List (Addr × Obj)) (xe : Value → Shared → Prop) : Cx := { X with pn := X.pn ++ pins, xe := xe }
def Cx.suite (X : Cx) (a : Addr) : Cx := { X with A := X.A.mark (some (.ref a)), calm := false, xe := fun _ _ => False }
def Ends.drop (D : Ends) (i : Nat) : Ends := { nx := fun σ H => D.nx (σ.set i none) H, rt := D.rt, bk := fun σ H => D.bk (σ.set i none) H, ct := fun σ H => D.ct (σ.set i none) H }
structure Catch (K : PySem.W.Frag) (C2 : Addr) : Prop where
  ty : PySem.W.typeIn K (.ref C2) = some (.type "type")
  cls : (PySem.W.clsIn K C2).isSome = true
  sub : PySem.W.subIn K (.ref C2) (.type "BaseException") = some true
def tTry (K : PySem.W.Frag) (C2 : Addr) (i : Nat) (tb : (St → XK) → TS) (th : TS) : TS := fun D σ H => ∃ Ex : St → XK, tb Ex D σ H ∧
  ∀ σ' cls od H', Ex σ' cls od H' → ∃ C, cls = .ref C ∧ PySem.W.subIn K (.ref C) (.ref C2) = some true ∧ ∀ a, H' a = none → th (D.drop i) (σ'.set i (some (.ref a))) (upd H' a (ExcO a C od))
section
variable {X : Cx} {pins : List (Addr × Obj)} {σ : St} {H : Hp} {s : Shared}
theorem Inv.tryW (I : Inv X pins σ H s) (xe : Value → Shared → Prop) : Inv (X.tryW pins xe) [] σ H s :=
  ⟨⟨I.ok.mod, I.ok.kind, I.ok.glob, I.ok.blt, I.ok.above, I.ok.inj, I.ok.has, I.ok.cab, I.ok.hd, I.ok.frames, I.ok.stk, I.ok.exf, I.ok.bs, I.ok.bsz, I.ok.noex, I.ok.exfs, I.ok.funs, I.ok.frf⟩, I.os, I.bare, I.base, I.loc, I.cell, I.free, I.freeC,
    fun p hp => I.pin p (by have : p ∈ (X.pn ++ pins) ++ [] := hp; rwa [List.append_nil] at this), I.hok, I.len⟩
theorem Inv.untry {xe : Value → Shared → Prop} {pins' : List (Addr × Obj)} (I : Inv (X.tryW pins xe) pins' σ H s) : Inv X pins σ H s :=
  ⟨⟨I.ok.mod, I.ok.kind, I.ok.glob, I.ok.blt, I.ok.above, I.ok.inj, I.ok.has, I.ok.cab, I.ok.hd, I.ok.frames, I.ok.stk, I.ok.exf, I.ok.bs, I.ok.bsz, I.ok.noex, I.ok.exfs, I.ok.funs, I.ok.frf⟩, I.os, I.bare, I.base, I.loc, I.cell, I.free, I.freeC,
    fun p hp => I.pin p (List.mem_append_left _ hp), I.hok, I.len⟩
theorem Inv.suite (I : Inv X pins σ H s) (a : Addr) : Inv (X.suite a) pins σ H s :=
  ⟨⟨I.ok.mod, I.ok.kind, I.ok.glob, I.ok.blt, I.ok.above, I.ok.inj, I.ok.has, I.ok.cab, (fun z => by cases z), I.ok.frames, I.ok.stk, I.ok.exf, I.ok.bs, I.ok.bsz, I.ok.noex, I.ok.exfs, I.ok.funs, I.ok.frf⟩, I.os, I.bare, I.base, I.loc, I.cell, I.free, I.freeC, I.pin, I.hok, I.len⟩
theorem Inv.unsuite {a : Addr} (I : Inv (X.suite a) pins σ H s) (ok : X.Ok) : Inv X pins σ H s := ⟨ok, I.os, I.bare, I.base, I.loc, I.cell, I.free, I.freeC, I.pin, I.hok, I.len⟩
/-- a name of the frame goes -/
theorem Inv.forget {h' : Heap} {tk : Nat} {i : Nat} {x : Str} {v : Option Value} {m : Str → Option Value} (I : Inv X pins σ H s) (hN : X.N.Nodup) (hi : X.N[i]? = some x)
    (hl : ∀ (i : Nat) (x : Str) (v : V), X.N[i]? = some x → σ[i]? = some (some v) → Vis X.env.scope x → ∃ u, RelV v u ∧ Look X.env s.heap m x u)
    (hn : h'.Ns X.env.locals (fun y => if y = x then v else m y)) (hs : Heap.SameBut X.env.locals s.heap h') : Inv X pins (σ.set i none) H { s with heap := h', toks := tk } := by
  have hiσ : i < σ.length := by rw [I.len]; exact (List.getElem?_eq_some_iff.mp hi).1
  have cne := I.cne
  refine ⟨I.ok, I.os, I.bare, ⟨fun b o e n hb hx => ?_, fun b o e n hb hx => ?_, I.base.free, fun b o e hx => ?_, I.base.tups, I.base.frzs, I.base.tbls⟩, ⟨_, hn, fun j y w e1 e2 e3 => ?_⟩, fun y c e => ?_, I.free, I.freeC, fun p hp => ?_, ?_, by simpa using I.len⟩
  · exact (hs.2 b (Nat.ne_of_lt (Nat.lt_of_lt_of_le (Heap.lt_size e) I.ok.above))).trans (I.base.keep b o e n hb hx)
  · obtain ⟨sl, q⟩ := I.base.slot b o e n hb hx
    exact ⟨sl, (hs.2 b (Nat.ne_of_lt (Nat.lt_of_lt_of_le (Heap.lt_size e) I.ok.above))).trans q⟩
  · obtain ⟨o', q⟩ := I.base.there b o e hx
    exact ⟨o', (hs.2 b (Nat.ne_of_lt (Nat.lt_of_lt_of_le (Heap.lt_size e) I.ok.above))).trans q⟩
  · by_cases hj : j = i
    · subst hj
      rw [List.getElem?_set_self hiσ] at e2
      cases e2
    · rw [List.getElem?_set_ne (Ne.symm hj)] at e2
      obtain ⟨u, r, q⟩ := hl j y w e1 e2 e3
      refine ⟨u, r, ?_⟩
      rcases q with ⟨k, e⟩ | ⟨k, c, e, z⟩
      · have ny : y ≠ x := fun z => hj (nodup_ix hN e1 (z ▸ hi))
        exact .inl ⟨k, by simp [ny, e]⟩
      · exact .inr ⟨k, c, e, z.sameBut hs (cne y c e)⟩
  · obtain ⟨w, z⟩ := I.cell y c e
    exact ⟨w, z.sameBut hs (cne y c e)⟩
  · obtain ⟨e, n, ne, nf, d⟩ := I.pin p hp
    exact ⟨(hs.2 p.1 ne).trans e, n, ne, nf, d⟩
  · exact fun b u e => (I.hok b u e).stay (fun c o hc q => (hs.2 c (fun z => by
      subst z
      rcases hc with z | z
      · subst z; rw [I.free] at e; cases e
      · rw [I.free] at z; cases z)).trans q) (fun _ q => q) fun _ _ q => q
/-- the state in which an exception lands -/
theorem Inv.landed {a T : Addr} {C : Addr} {od : Option Addr} {H2 : Hp} {s2 : Shared} {h' : Heap} {st : Option (Addr × Value)} (I : Inv X pins σ H s) (os : s2.os = s.os) (bare : AllBare s2.gens) (un : Un (frs X.stack) [] H H2 s.heap s2.heap) (hok : HOk X.prog X.w H2 s2.heap)
    (fa : s.heap.get? a = none) (fT : s.heap.get? T = none) (na : H2 a = none) (nT : H2 T = none) (k : Kp (frs X.stack) [a, T] s2.heap h') (x : ExcAt h' a (.ref C) od st) : Inv X pins σ (upd H2 a (ExcO a C od)) { s2 with heap := h' } := by
  have hfree : ∀ b ∈ frs X.stack, H2 b = none := fun b hb => by
    have ff := I.stack
    obtain ⟨_, o, ho, _⟩ := ff.mem hb
    exact un.free b o ho (I.stkFree b hb) (by simp)
  have hex : ∀ b ∈ [a, T], s.heap.get? b = none := fun b hb => by
    rcases List.mem_cons.mp hb with rfl | hb
    · exact fa
    · cases List.mem_singleton.mp hb; exact fT
  have hex2 : ∀ b ∈ [a, T], H2 b = none := fun b hb => by
    rcases List.mem_cons.mp hb with rfl | hb
    · exact na
    · cases List.mem_singleton.mp hb; exact nT
  exact I.call' (s' := { s2 with heap := h' }) (ch := []) os ((un.kp k (fun b hb => .inl hb) hex).put fa na) ((hok.kp k hfree hex2).put na (ExcO.ok x)) bare fun b hb => by cases hb
end
section
variable {M : Model} {A : Around} {E : Value → Shared → Prop} {K : PySem.W.Frag} {s : Shared} {a C C2 : Addr} {ox : Obj} {od : Option Obj}
/-- the clause's class is one of the exception's -/
theorem exc_hits' {Q : Bool → Shared → Prop} (X : K.In s.heap) (L4 : PySem.W.Looks M s.heap (typeOf (.ref a)) (.ref C)) (c2 : Catch K C2) (hsub : PySem.W.subIn K (.ref C) (.ref C2) = some true) (h : Q true s) : wpAny M A (excMatches (.ref a) (.ref C2)) Q E s := by
  have L1 := PySem.W.looks_typeIn (M := M) X c2.ty
  have L2 := PySem.W.looks_subIn (M := M) X c2.sub
  have L3 := PySem.W.looks_subIn (M := M) X hsub
  have L5 : PySem.W.Looks M s.heap (isType (.ref C2)) true := by
    have e := c2.cls
    unfold PySem.W.clsIn at e
    split at e
    · rename_i ho
      intro A' Q' E' s' k q
      unfold isType loadHead
      exact wpAny_bind (wpAny_loadPart (k _ _ (X _ _ ho)) (wpAny_pure q))
    · cases e
  have f := tc_notTuple
  obtain ⟨hh, g, d, t, os⟩ := s
  unfold excMatches
  repeat (any_goals (first | assumption | (refine L1.at ?_) | (refine L2.at ?_) | (refine L3.at ?_) | (refine L4.at ?_) | (refine L5.at ?_) | wp_step))
end
end L2

set_option Elab.async false
set_option linter.all false
set_option maxRecDepth 100000
namespace L2
open PySem PySem.Spec PyProof.Rows
section
variable {X : Cx} {x n : Str} {np hpos pos : Pos} {b₀ : Stmt} {body suite : List Stmt} {i : Nat} {C2 : Addr} {tb : (St → XK) → TS} {th : TS}
/-- behind the clause's suite its name goes -/
theorem behind_suite {pins : List (Addr × Obj)} {a : Addr} {D : Ends} {f : Flow} {s : Shared} (ok : X.Ok) (hN : X.N.Nodup) (hi : X.N[i]? = some n) (hl : X.env.kindOf n = some .local)
    (q : SP (X.suite a) pins (D.drop i) f s) : wpAny (model X.prog X.w) X.A (do bindName X.env n .none; unbindBehindTheSuite X.env n hpos) (fun _ s' => SP X pins D f s') X.xe s := by
  have hp : (X.env.scope.kind == .class || (X.env.scope.kind == .module && X.env.locals != X.env.globals)) = false := by rw [ok.kind]; rfl
  have go : ∀ {σ : St} {H : Hp} (J : Inv (X.suite a) pins σ H s) {Q : Unit → Shared → Prop}, (∀ s', Inv X pins (σ.set i none) H s' → Q () s') → wpAny (model X.prog X.w) X.A (do bindName X.env n .none; unbindBehindTheSuite X.env n hpos) Q X.xe s := by
    intro σ H J Q k
    have J' := J.unsuite ok
    obtain ⟨m, hn, hl'⟩ := J'.loc
    exact wpAny_nameGoes_keeps hl hn hp fun h' v hn' hs => k _ (J'.forget hN hi hl' hn' hs)
  cases f with
  | next => obtain ⟨σ, H, J, q⟩ := q; exact go J fun s' J' => ⟨_, H, J', q⟩
  | brk => obtain ⟨σ, H, J, q⟩ := q; exact go J fun s' J' => ⟨_, H, J', q⟩
  | cont => obtain ⟨σ, H, J, q⟩ := q; exact go J fun s' J' => ⟨_, H, J', q⟩
  | ret u => obtain ⟨v, σ, H, J, r, q⟩ := q; exact go J fun s' J' => ⟨v, _, H, J', r, q⟩
theorem ws_try (hst : X.stack = X.env :: X.outer) (hfm : X.env.frame = some X.env.locals) (hg : Gl X x) (hm : X.mg x = some (.ref C2)) (c2 : Catch X.K C2) (hN : X.N.Nodup) (hi : X.N[i]? = some n) (hl : X.env.kindOf n = some .local)
    (hb : ∀ pins xe Ex, XPass (X.tryW pins xe) Ex → PSsw (X.tryW pins xe) body (tb Ex)) (hs : ∀ a, PSsw (X.suite a) (b₀ :: suite) th) (hd : (x == ("__debug__" : Str)) = false := by decide) :
    PSw X (.Try body [.ExceptHandler (some (.Name x np)) (some n) (b₀ :: suite) hpos] [] [] pos) (tTry X.K C2 i tb th) := ⟨by
  intro pins s σ H D I h
  obtain ⟨Ex, h1, h2⟩ := h
  refine wpAny_Try_except ?_
  generalize hxe : (fun (e : Value) (s₁ : Shared) => wpAny (model X.prog X.w) X.A (noteFrame e X.env) (fun _ s₂ => wpAny (model X.prog X.w) X.A (setFlight e none) (fun _ s₃ =>
    wpAny (model X.prog X.w) X.A (handleBy e X.env [.ExceptHandler (some (.Name x np)) (some n) (b₀ :: suite) hpos]) (SP X pins D) X.xe s₃) X.xe s₂) X.xe s₁) = xe
  have hx : XPass (X.tryW pins xe) Ex := ⟨fun pins' σ' H1 s1 e s2 I' hc => by
    obtain ⟨a, T, cls, od, H2, rfl, os, bare, un, hok, fa, fT, na, nT, x0, q⟩ := hc
    obtain ⟨C, rfl, hsub, k⟩ := h2 σ' cls od H2 q
    have I1 : Inv X pins σ' H1 s1 := I'.untry
    have un : Un (frs X.stack) [] H1 H2 s1.heap s2.heap := un
    have hff : s2.heap.FunFrames X.base (X.env :: X.outer) := by
      rw [← hst]
      exact funFrames_kp (fun b hb o e => un.any e (I1.stkFree b hb) (by simp)) I1.stack
    show xe (.ref a) s2
    rw [← hxe]
    refine note_ok (by rw [← hst]; exact I1.ok.frames) hff hfm x0 (.inr ⟨T, rfl⟩) fun h3 T3 y1 y2 y3 => ?_
    refine land_ok y1 fun h4 z1 z2 => ?_
    have k4 : Kp (frs X.stack) [a, T] s2.heap h4 := by
      rw [hst]
      refine ⟨fun b o e n1 n2 => z2 b o (fun q => by subst q; rw [y2] at e; cases e) (y3.keep b o e n1 n2), fun b o e n1 n2 => ?_⟩
      obtain ⟨sl, e1⟩ := y3.slot b o e n1 n2
      exact ⟨sl, z2 b _ (fun q => by subst q; rw [y2] at e; cases e) e1⟩
    have I4 := I1.landed (h' := h4) os bare un hok fa fT na nT k4 z1
    refine wpAny_handleBy_cons (codeAny_handlers_test ?_) (by intro q; cases q)
    refine Calls.Name_function_global I4.ok.kind hg (Calls.loadGlobal_global (by rw [I4.ok.glob]; exact I4.mod.glob.keeps I4.bk) hm ?_) hd
    have LT : PySem.W.Looks (model X.prog X.w) h4 (typeOf (.ref a)) (.ref C) := by
      obtain ⟨oe, vs, e1, e2, _⟩ := z1
      exact e2 ▸ (PySem.W.Looks.ld e1).andThen .now
    refine exc_hits' I4.kIn LT c2 hsub ?_
    refine codeAny_handlers_suite_as ?_
    refine land_ok z1 fun h5 w1 w2 => ?_
    have k5 : Kp (frs X.stack) [a, T] s2.heap h5 := by
      refine ⟨fun b o e n1 n2 => w2 b o (fun q => by subst q; rw [y2] at e; cases e) (k4.keep b o e n1 n2), fun b o e n1 n2 => ?_⟩
      obtain ⟨sl, e1⟩ := k4.slot b o e n1 n2
      exact ⟨sl, w2 b _ (fun q => by subst q; rw [y2] at e; cases e) e1⟩
    have I5 := (I1.landed (h' := h5) os bare un hok fa fT na nT k5 w1).suite a
    refine store_ok (X := X.suite a) I5 hN hi (.inl hl) (v := .ref a) rfl (fun s6 I6 => ?_) (.inr hl)
    refine wpAny_mono ((hs a).p pins s6 _ _ (D.drop i) I6 (k a na)) (fun f s7 q7 => ?_) fun _ _ z => False.elim z
    exact behind_suite I1.ok hN hi hl q7⟩
  refine wpAny_mono ((hb pins xe Ex hx).p [] s σ H D (I.tryW xe) h1) (fun f s' q => ?_) fun e s' q => q
  cases f with
  | next => obtain ⟨σ', H', J, q⟩ := q; exact wpAny_execs_nil ⟨σ', H', J.untry, q⟩
  | brk => obtain ⟨σ', H', J, q⟩ := q; exact ⟨σ', H', J.untry, q⟩
  | cont => obtain ⟨σ', H', J, q⟩ := q; exact ⟨σ', H', J.untry, q⟩
  | ret u => obtain ⟨v, σ', H', J, r, q⟩ := q; exact ⟨v, σ', H', J.untry, r, q⟩⟩
end
end L2

set_option Elab.async false
set_option linter.all false
set_option maxRecDepth 100000
namespace L2
open PySem PySem.Spec PyProof.Rows
theorem xpass0 {X : Cx} : XPass X (fun _ => E0) := ⟨fun _ _ _ _ _ _ _ hc => by
  obtain ⟨_, _, _, _, _, _, _, _, _, _, _, _, _, _, _, q⟩ := hc
  exact q.elim⟩
theorem cl_isiXK {X : Cx} (K : PySem.W.Frag) (h : X.K = K := by rfl) : CallR X (.builtin "isinstance") (rIsX K) := by subst h; exact cl_isiX
def CDivZ (i j : Int) : Prop := j ≠ 0 ∧ bits j ≤ 9000
theorem op_fdivZ {X : Cx} : OpR X (binaryOp .FloorDiv) (rI CDivZ fun i j => .int (i.fdiv j)) := opI fun i j _ _ _ _ _ hc q =>
  floordiv_int hc.1 q (.inl (PyProof.noPylong_of_log2 (log_of_bits hc.2 (by decide))))
theorem fdiv_pos {n g : Int} (h : 0 < g) : n.fdiv g = n / g := Int.fdiv_eq_ediv_of_nonneg n (by omega)
theorem fdiv_neg {n g : Int} (h : 0 < g) (d : g ∣ n) : n.fdiv (-g) = (-n) / g := by
  obtain ⟨k, rfl⟩ := d
  have e1 : g * k = (-g) * (-k) := by rw [Int.neg_mul_neg]
  rw [e1, Int.mul_fdiv_cancel_left _ (by omega)]
  rw [Int.neg_mul_neg, ← Int.mul_neg, Int.mul_ediv_cancel_left _ (by omega)]
/-- a new thing beside what stands -/
theorem same_exc {H H' : Hp} {a : Addr} {u : HO} (s : Same H H') (n : H' a = none) : Same H (upd H' a u) := s.trans (Same.upd n)
end L2

set_option Elab.async false
set_option linter.all false
set_option maxRecDepth 100000
namespace L2
open PySem PySem.W PySem.Spec PySem.Calls PyProof.Rows
/-! ### texts -/
/-- the limit on figures is as Python starts with it -/
structure NoDig (K : Frag) : Prop where
  ok : nsOkIn K cStatics = true
  no : nsIn K cStatics "sys.int_max_str_digits" = some none
theorem NoDig.at {K : Frag} {h : Heap} (n : NoDig K) (X : K.In h) : h.NoDigits := ⟨_, .of_isNs (isNs_of_in X n.ok), nsMap_none_of_in X n.ok n.no⟩
section
variable {X : Cx}
/-- str(i) -/
@[irreducible] def rStrI : List V → Hp → VK → Prop := fun xs H Q => ∃ i : Int, xs = [.int i] ∧ i.natAbs < 10 ^ 4300 ∧ Q (.str (toString i)) H
theorem rstrI {i : Int} {H : Hp} {Q : VK} (h : i.natAbs < 10 ^ 4300) (q : Q (.str (toString i)) H) : rStrI [.int i] H Q := by unfold rStrI; exact ⟨i, rfl, h, q⟩
theorem cl_strI (hc : X.calm = true) (nd : NoDig X.K) : CallR X (.type "str") rStrI := by
  unfold rStrI
  intro pins s σ H xs us Q I r h
  obtain ⟨i, rfl, hz, q⟩ := h
  obtain ⟨u, rfl, t, rfl⟩ := vals1 r
  exact PyProof.Rows.str_of_int_or (I.ok.hd hc) (nd.at I.kIn) (fun _ => ⟨.str _, H, I.tok _, ⟨_, rfl⟩, q⟩) (fun h => absurd hz (Nat.not_lt.mpr h))
/-- t.startswith(u) -/
@[irreducible] def rStarts : V → List V → Hp → VK → Prop := fun x xs H Q => ∃ a b, x = .str a ∧ xs = [.str b] ∧ Q (.bl (Txt.startswith a b)) H
theorem rstarts {a b : Str} {H : Hp} {Q : VK} (q : Q (.bl (Txt.startswith a b)) H) : rStarts (.str a) [.str b] H Q := by unfold rStarts; exact ⟨a, b, rfl, rfl, q⟩
theorem mt_starts : MtR X "str.startswith" rStarts := by
  unfold rStarts
  intro pins s σ H x xs v us Q I rx rv h
  obtain ⟨a, b, rfl, rfl, q⟩ := h
  obtain ⟨t, rfl⟩ := rx
  obtain ⟨u, rfl, t', rfl⟩ := vals1 rv
  exact SC.startswith ⟨.bl _, H, I, rfl, q⟩
/-- t.zfill(n) -/
@[irreducible] def rZfill : V → List V → Hp → VK → Prop := fun x xs H Q => ∃ a i, x = .str a ∧ xs = [.int i] ∧ PadOk i = true ∧ Q (.str (Txt.zfill a i)) H
theorem rzfill {a : Str} {i : Int} {H : Hp} {Q : VK} (h : PadOk i = true) (q : Q (.str (Txt.zfill a i)) H) : rZfill (.str a) [.int i] H Q := by unfold rZfill; exact ⟨a, i, rfl, rfl, h, q⟩
theorem mt_zfill : MtR X "str.zfill" rZfill := by
  unfold rZfill
  intro pins s σ H x xs v us Q I rx rv h
  obtain ⟨a, i, rfl, rfl, hp, q⟩ := h
  obtain ⟨t, rfl⟩ := rx
  obtain ⟨u, rfl, t', rfl⟩ := vals1 rv
  exact SC.zfill hp fun t' k => ⟨.str _, H, I.tok _, ⟨_, rfl⟩, q⟩
theorem vals_strs : ∀ (l : List (Str × Tok)), Vals (l.map fun p => V.str p.1) (strValues l)
  | [] => .nil
  | (x, t) :: r => .cons ⟨t, rfl⟩ (vals_strs r)
/-- t.split(u) -/
@[irreducible] def rSplit : V → List V → Hp → VK → Prop := fun x xs H Q => ∃ a b, x = .str a ∧ xs = [.str b] ∧ (b.length == 0) = false ∧ a.length ≤ sizeLine ∧ (Txt.split a b).length ≤ sizeLine ∧ ∀ p, H p = none → Q (.ref p) (upd H p (.lst ((Txt.split a b).map V.str)))
theorem rsplit {a b : Str} {H : Hp} {Q : VK} (h1 : (b.length == 0) = false) (h2 : a.length ≤ sizeLine) (h3 : (Txt.split a b).length ≤ sizeLine) (q : ∀ p H', H p = none → H' p = some (.lst ((Txt.split a b).map V.str)) → Same H H' → Q (.ref p) H') : rSplit (.str a) [.str b] H Q := by
  unfold rSplit; exact ⟨a, b, rfl, rfl, h1, h2, h3, fun p hp => q p _ hp upd_same (Same.upd hp)⟩
theorem mt_split : MtR X "str.split" rSplit := by
  unfold rSplit
  intro pins s σ H x xs v us Q I rx rv h
  obtain ⟨x, y, rfl, rfl, hy, hsz, hz, q⟩ := h
  obtain ⟨t, rfl⟩ := rx
  obtain ⟨_, rfl, u, rfl⟩ := vals1 rv
  unfold Txt.split at hz q
  cases h1 : (decide (x.length < y.length) || decide (Builtin.Str.strKind x < Builtin.Str.strKind y))
  · rw [h1, if_neg Bool.false_ne_true] at hz q
    cases hf : (Builtin.Str.occurrences x y 0 x.length (x.length + 1)).isEmpty
    · rw [hf, if_neg Bool.false_ne_true] at hz q
      refine call_meets F.slot_str_split (typeIs_str _ _ _) F.entry_str_split (F.args_str_split_2 _ _) (meets_str_split_sep x y t u h1 hy hf hsz hz) ?_
      rw [strsFrom_eq]
      refine ⟨.ref _, _, I.lnew (t' := _) (ys := _) ?_ ?_, rfl, q _ I.fresh⟩
      · have e := numbered_texts s.toks (Builtin.Str.partsBetween x (Builtin.Str.occurrences x y 0 x.length (x.length + 1)) y.length)
        have v := vals_strs (numbered s.toks (Builtin.Str.partsBetween x (Builtin.Str.occurrences x y 0 x.length (x.length + 1)) y.length))
        rw [show (fun p : Str × Tok => V.str p.1) = V.str ∘ Prod.fst from rfl, ← List.map_map, e] at v
        exact v
      · rw [List.length_map]; exact hz
    · rw [hf, if_pos rfl] at hz q
      exact call_meets F.slot_str_split (typeIs_str _ _ _) F.entry_str_split (F.args_str_split_2 _ _) (meets_str_split_not_found x y t u h1 hy hf)
        ⟨.ref _, _, I.lnew (t' := s.toks) (its := [.str x t]) (ys := [V.str x]) (.cons ⟨t, rfl⟩ .nil) (by show 1 ≤ sizeLine; decide), rfl, q _ I.fresh⟩
  · rw [h1, if_pos rfl] at hz q
    exact call_meets F.slot_str_split (typeIs_str _ _ _) F.entry_str_split (F.args_str_split_2 _ _) (meets_str_split_cannot_occur x y t u h1)
      ⟨.ref _, _, I.lnew (t' := s.toks) (its := [.str x t]) (ys := [V.str x]) (.cons ⟨t, rfl⟩ .nil) (by show 1 ≤ sizeLine; decide), rfl, q _ I.fresh⟩
/-- int(t), t of figures and - alone -/
def Signs (t : Str) : Prop := ∀ c ∈ t.cps.toList, c = 45 ∨ (48 ≤ c ∧ c ≤ 57)
@[irreducible] def rIntT : List V → Hp → VK → Prop := fun xs H Q => ∃ t n, xs = [.str t] ∧ Signs t ∧ PySem.intText? t = some n ∧ t.length ≤ sizeLine ∧ Q (.int n) H
theorem rintT {t : Str} {n : Int} {H : Hp} {Q : VK} (hs : Signs t) (h : PySem.intText? t = some n) (z : t.length ≤ sizeLine) (q : Q (.int n) H) : rIntT [.str t] H Q := by unfold rIntT; exact ⟨t, n, rfl, hs, h, z, q⟩
end
section
open PySem.NumText
theorem wpAny_intMax {M : Model} {A : Around} {E : Value → Shared → Prop} {s : Shared} {Q : Nat → Shared → Prop} (nd : s.heap.NoDigits) (h : Q 4300 s) : wpAny M A Builtin.intMaxStrDigits Q E s := by
  obtain ⟨mc, hns, hnone⟩ := nd
  unfold Builtin.intMaxStrDigits
  refine wpAny_bind (wpAny_nsGet hns ?_)
  rw [hnone]
  exact wpAny_pure h
theorem wp_textB {M : Model} {A : Around} {E : Value → Shared → Prop} {s : Shared} {Q : Value → Shared → Prop} {v : Value} {text : List Nat} {n : Int} (nd : s.heap.NoDigits)
    (hs : ¬ (text.takeWhile (· != 0)).length ≤ 640) (hr : (int_private% "readNumeral") 4300 10 (text.takeWhile (· != 0)) = (int_private% "Numeral.value") n)
    (ha : ((text.takeWhile (· != 0)).length == text.length) = true) (h : Q (.int n s.toks) { s with toks := s.toks + 1 }) :
    wpAny M A ((int_private% "intFromText") v text 10) Q E s := by
  obtain ⟨hp, g, d, tk, os⟩ := s
  repeat (any_goals (first
    | assumption
    | (with_reducible refine wpAny_intMax nd ?_)
    | (with_reducible refine wpAny_ite_false (decide_eq_false hs) ?_)
    | (with_reducible refine wpAny_ite_true (decide_eq_true ha) ?_)
    | wp_step))
  all_goals (try rw [hr])
  all_goals (try dsimp only)
  repeat (any_goals (first
    | assumption
    | (with_reducible refine wpAny_intMax nd ?_)
    | (with_reducible refine wpAny_ite_false (decide_eq_false hs) ?_)
    | (with_reducible refine wpAny_ite_true (decide_eq_true ha) ?_)
    | wp_step))
open PySem.W.KIN in
set_option maxHeartbeats 4000000 in
theorem meets_textB {x : PySem.Str} {u : Tok} {n : Int} (hx : x.length ≤ sizeLine) (hl : ¬ (numSeenOf x).length ≤ 640) (hn : PySem.intText? x = some n) :
    Meets (Builtin.«int.__new__» ⟨[.type "int", .str x u], []⟩) (fun A R s => s.heap.NoDigits ∧ R (.ok (.ret (.int n s.toks))) { s with toks := s.toks + 1 }) :=
  .of_wp fun prog w A R s h => by
    obtain ⟨nd, h⟩ := h
    obtain ⟨hp, g, d, tk, os⟩ := s
    have f1 := F.conv_sub_int
    have f2 := F.madeHere_int
    have f3 := str_int
    have f4 := str_idx
    have f5 := str_trunc
    have f6 : typeOf (.str x u) = pure (.type "str") := rfl
    have hr : (int_private% "readNumeral") 4300 10 (numSeenOf x) = (int_private% "Numeral.value") n ∧ ((numSeenOf x).length == (numTextOf x).length) = true := by
      rcases read4300 x hx with ⟨m, h1, h2, h3⟩ | ⟨h1, _⟩
      · rw [hn] at h1
        injection h1 with h1
        subst h1
        exact ⟨h3, h2⟩
      · rw [hn] at h1
        cases h1
    have hk := KIN.Hid.mk (And.intro hl hr)
    clear hr hl hn hx
    repeat (any_goals (first
      | assumption
      | ((with_reducible show wpAny _ _ ((int_private% "intFromText") _ _ _) _ _ _); refine wp_textB nd hk.out.1 hk.out.2.1 hk.out.2.2 ?_)
      | wp_step))
    all_goals first | exact ⟨_, rfl, h⟩ | skip
end
section
open PySem.NumText
variable {X : Cx}
theorem cl_intT (nd : NoDig X.K) : CallR X (.type "int") rIntT := by
  unfold rIntT
  intro pins s σ H xs us Q I r h
  obtain ⟨x, n, rfl, hs, hn, hz, q⟩ := h
  obtain ⟨_, rfl, t, rfl⟩ := vals1 r
  have e := (numText_signs hs).2
  have el : (numSeenOf x).length = x.length := by rw [e]; exact Array.length_toList
  by_cases hl : x.length ≤ 640
  · exact KIN.call_text hn hl ⟨.int n, H, I.tok _, ⟨_, rfl⟩, q⟩
  · exact call_int_1 (meets_textB hz (by rw [el]; exact hl) hn) ⟨nd.at I.kIn, typeIs_int _ _ _, ⟨.int n, H, I.tok _, ⟨_, rfl⟩, q⟩⟩
end
end L2

set_option Elab.async false
set_option linter.all false
set_option maxRecDepth 100000
namespace L2
open PySem PySem.W PySem.Spec PySem.Calls PyProof.Rows
section
variable {X : Cx}
/-- t[lo:hi] -/
def rSlS : V → Option Int → Option Int → Hp → VK → Prop := fun x lo hi H Q => ∃ a, x = .str a ∧ a.length ≤ sizeLine ∧ Q (.str (Txt.slice a lo hi)) H
theorem sl_str : SlR X rSlS := by
  intro pins s σ H x v vl vu lo hi sl Q I rx hs pl pu h
  obtain ⟨a, rfl, hz, q⟩ := h
  obtain ⟨t, rfl⟩ := rx
  refine ⟨"str", _, F.slot_str_getitem.lookup, typeIs_str _ _ _, ?_⟩
  have fin : ∀ (l u : Option (Int × Tok)), l.map (·.1) = lo → u.map (·.1) = hi → s.heap.IsSlice sl l u none → wpAny (model X.prog X.w) X.A (getItem (.str a t) (.ref sl)) (EP X pins σ Q) X.xe s := by
    intro l u el eu hsl
    refine wpAny_getItem_str_slice (st := none) hsl rfl ?_
    refine post_val_or_str ⟨?_, fun t' k => ⟨.str (Txt.slice a lo hi), H, I.tok _, ⟨t', ?_⟩, q⟩⟩
    · have := Txt.slice_le a lo hi
      unfold Txt.slice at this
      rw [← el, ← eu] at this
      exact Nat.le_trans this hz
    · unfold Txt.slice
      rw [← el, ← eu]
      rfl
  cases pl with
  | none =>
    cases pu with
    | none => exact fin none none rfl rfl hs
    | int j tj => exact fin none (some (j, tj)) rfl rfl hs
  | int i ti =>
    cases pu with
    | none => exact fin (some (i, ti)) none rfl rfl hs
    | int j tj => exact fin (some (i, ti)) (some (j, tj)) rfl rfl hs
/-- t * n -/
def rMulS : R2 := fun x y H Q => ∃ a n, x = .str a ∧ y = .int n ∧ MulOk a n ∧ Q (.str (Txt.mul a n)) H
theorem op_mulS : OpR X (binaryOp .Mult) rMulS := by
  intro pins s σ H x y v u Q I rx ry h
  obtain ⟨a, n, rfl, rfl, hm, q⟩ := h
  obtain ⟨t, rfl⟩ := rx
  obtain ⟨t', rfl⟩ := ry
  exact SB.mul hm fun t' k => ⟨.str _, H, I.tok _, ⟨_, rfl⟩, q⟩
/-- all(list of bools) -/
@[irreducible] def rAll : List V → Hp → VK → Prop := fun xs H Q => ∃ (p : Addr) (bs : List Bool), xs = [.ref p] ∧ H p = some (.lst (bs.map V.bl)) ∧ Q (.bl (bs.all id)) H
theorem rall {p : Addr} {bs : List Bool} {H : Hp} {Q : VK} (e : H p = some (.lst (bs.map V.bl))) (q : Q (.bl (bs.all id)) H) : rAll [.ref p] H Q := by unfold rAll; exact ⟨p, bs, rfl, e, q⟩
theorem bools_of {bs : List Bool} : ∀ {us : List Value}, Vals (bs.map V.bl) us → LSm.BoolsAre us bs := by
  induction bs with
  | nil => intro us r; cases r; exact .nil
  | cons b bs ih =>
    intro us r
    cases r with
    | cons r t => cases (show _ = Value.bool b from r); exact .cons b (ih t)
theorem cl_all (hc : X.calm = true) : CallR X (.builtin "all") rAll := by
  unfold rAll
  intro pins s σ H xs us Q I r h
  obtain ⟨p, bs, rfl, e, q⟩ := h
  obtain ⟨_, rfl, r1⟩ := vals1 r
  cases r1
  obtain ⟨z, its, n, rv, hl, eo⟩ := I.lstM e
  have hL : s.heap.IsList p its.toArray := ⟨_, eo, rfl, n, rfl⟩
  have hb := bools_of rv
  have hlt : p < s.heap.objs.size := Heap.lt_size eo
  refine call_all_walk (wpAny_pyIter_list hL ?_)
  refine ⟨s.heap.objs.size, [s.heap.objs.size, p], [s.heap.objs.size], its.toArray.size, _, _, fun i => (bs[i]?).getD true, rfl, Walks.list (A := X.A.in1) (I.ok.hd hc) _ p (Nat.ne_of_lt hlt) its.toArray,
    ⟨⟨_, Heap.get?_push_size _ rfl, rfl, rfl⟩, hL.push _⟩, fun i v s' Q' E' hP hQ => ?_, fun h' tk hk => ?_⟩
  · obtain ⟨b, e, rfl⟩ := hb.get i v (by simpa using hP)
    simp only [e, Option.getD_some] at hQ
    exact wpAny_truthy_bool hQ
  · have e : ((List.range its.toArray.size).all fun i => (bs[i]?).getD true) = bs.all id := by
      rw [List.size_toArray, hb.length]; exact LSm.range_all bs
    rw [e]
    exact ⟨.bl _, H, I.kept (LSm.kept_iter hk), rfl, q⟩
/-! reversed(list), and its texts joined -/
/-- a new iterator that goes back over the list at l, of which n items are left -/
def RevO (it l : Addr) (n : Nat) : HO := .ext fun h => h.IsRevIter it l ((n : Int) - 1)
theorem RevO.ok {P : Program} {w : World} {H : Hp} {h : Heap} {it l : Addr} {n : Nat} (x : h.IsRevIter it l ((n : Int) - 1)) : ObjOk P w H h it (RevO it l n) :=
  ⟨x, (let ⟨o, e, _⟩ := x; ⟨o, e⟩), fun g1 g2 y k => y.at fun o e => k o e⟩
@[irreducible] def rRev : List V → Hp → VK → Prop := fun xs H Q => ∃ (l : Addr) (ys : List V), xs = [.ref l] ∧ H l = some (.lst ys) ∧ ∀ it, H it = none → Q (.ref it) (upd H it (RevO it l ys.length))
theorem rrev {l : Addr} {ys : List V} {H : Hp} {Q : VK} (e : H l = some (.lst ys)) (q : ∀ it H', H it = none → H' it = some (RevO it l ys.length) → Same H H' → Q (.ref it) H') : rRev [.ref l] H Q := by
  unfold rRev; exact ⟨l, ys, rfl, e, fun it h => q it _ h upd_same (Same.upd h)⟩
theorem cl_rev : CallR X (.type "reversed") rRev := by
  unfold rRev
  intro pins s σ H xs us Q I r h
  obtain ⟨l, ys, rfl, e, q⟩ := h
  obtain ⟨_, rfl, r1⟩ := vals1 r
  cases r1
  obtain ⟨z, its, n, rv, hl, eo⟩ := I.lstM e
  refine call_reversed_list (items := its.toArray) ⟨_, eo, rfl, n, rfl⟩ ?_
  refine ⟨.ref _, _, I.laid (t' := s.toks) (fun b u q => Heap.get?_push_of_some _ q) (Nat.le_refl _) (RevO.ok (l := l) (n := ys.length) ?_), rfl, q _ I.fresh⟩
  refine ⟨_, Heap.get?_push_size _ rfl, rfl, ?_⟩
  rw [List.size_toArray, ← rv.length]
  rfl
end
end L2

set_option Elab.async false
set_option linter.all false
set_option maxRecDepth 100000
namespace L2
open PySem PySem.W PySem.Spec PySem.Calls PyProof.Rows
/-! ### the texts of a list, joined from its end -/
theorem lri_no_len : typeLookup (.type "list_reverseiterator") "__len__" = pure none := by rw [typeLookup_type, builtinLookup_eq_fast]; kernel_rfl
theorem lri_hint : typeLookup (.type "list_reverseiterator") "__length_hint__" = pure (some (.builtin "list_reverseiterator.__length_hint__")) := by rw [typeLookup_type, builtinLookup_eq_fast]; kernel_rfl
theorem lri_self : isSubtype (.type "list_reverseiterator") (.type "list_reverseiterator") = pure true := by rw [isSubtype_type]; kernel_rfl
theorem lri_split : splitId "list_reverseiterator.__length_hint__" = some ("list_reverseiterator", "__length_hint__") := by decide +kernel
theorem gives_made {sep : Str} : ∀ {l : List (Str × Tok)}, Builtin.Str.tooLong ((l.map (·.1)).toArray.foldl (· + ·.length + sep.length) 0) = false → Gives (joinTail sep (strValues l)) (joinMade sep l)
  | [], h => gives_joinTail sep [] h
  | [p], h => gives_joinTail sep [p] h
  | p :: q :: r, h => gives_joinTail sep (p :: q :: r) h
section
variable {prog : Program} {w : World} {A : Around} {E : Value → Shared → Prop} {s : Shared} {I : Addr}
theorem hint_rev {Q : Bool → Shared → Prop} (hT : s.TypeIs (.ref I) "list_reverseiterator") (h : Q false s) : wpAny (model prog w) A (Builtin.List.listLengthHint (.ref I)) Q E s := by
  unfold Builtin.List.listLengthHint
  refine wpAny_bind (wpAny_specialOf hT lri_no_len ?_)
  refine wpAny_bind (m := specialOf (Value.ref I) (Str.ofString "__length_hint__")) (wpAny_specialOf hT lri_hint ?_)
  dsimp only
  rw [lri_split]
  refine wpAny_bind (wpAny_isInstance hT lri_self ?_)
  exact wpAny_pure h
theorem collect_rev {l : Addr} {items : Array Value} {Q : List Value → Shared → Prop} (hh : A.handled = none) (hne : l ≠ I) (hit : s.heap.IsRevIter I l ((items.size : Int) - 1)) (hl : s.heap.IsList l items) (hz : items.size ≤ sizeLine)
    (hQ : ∀ s' acc, Moved [I] (fun a b => b = a) s s' → ItemsOf (fun i v => items[items.size - 1 - i]? = some v) acc items.size → Q acc.toList s') :
    wpAny (model prog w) A (collect (.ref I)) Q E s := by
  have W := (Walks.listRev (prog := prog) (w := w) (A := A.in1) hh I l hne items).toS
  have hI : I < s.heap.objs.size := let ⟨o, e, _⟩ := hit; Heap.lt_size e
  have hL : l < s.heap.objs.size := let ⟨o, e, _⟩ := hl; Heap.lt_size e
  have hSf : s.heap.objs.size ∉ [I, l] := fun hm => by
    rcases List.mem_cons.mp hm with z | z
    · exact absurd z (Nat.ne_of_gt hI)
    · exact absurd (List.mem_singleton.mp z) (Nat.ne_of_gt hL)
  have hSI : s.heap.objs.size ≠ I := Nat.ne_of_gt hI
  have hst : (0 ≤ items.size ∧ s.heap.IsRevIter I l ((items.size : Int) - 1 - ((0 : Nat) : Int)) ∧ s.heap.IsList l items) := ⟨Nat.zero_le _, by simpa using hit, hl⟩
  unfold collect
  refine wpAny_bind (wpAny_runValue (codeAny_builtin F.entry_proto_collect ?_))
  rw [Around.under_plainId F.plain_proto_collect _]
  show wpAny _ A.in1 (newList [] >>= fun l => again (.builtin "list.__iadd__" ⟨[l, .ref I], []⟩)) _ _ s
  refine wpAny_bind (wpAny_newObj_type ?_)
  refine wpAny_pure ⟨plainId_quiet F.plain_list_iadd _, codeAny_builtin F.entry_list_iadd ?_⟩
  rw [Around.under_plainId F.plain_list_iadd _]
  have kk : ∀ b o, s.heap.get? b = some o → (s.heap.push { cls := .type "list", data := .seq ([] : List Value).toArray }).get? b = some o := fun b o e => Heap.get?_push_of_some _ e
  have hst₁ := W.frame 0 s (s.heap.push { cls := .type "list", data := .seq ([] : List Value).toArray }) s.toks hst (Nat.le_refl _) fun b _ o e => kk b o e
  have hT : (⟨s.heap.push { cls := .type "list", data := .seq ([] : List Value).toArray }, s.gens, s.drawn, s.toks, s.os⟩ : Shared).TypeIs (.ref I) "list_reverseiterator" := (hit.at fun o e => kk _ _ e).typeIs
  show wpAny _ A.in1 (Builtin.List.listExtendWith (.ref s.heap.objs.size) (.ref I) (.ref s.heap.objs.size)) _ _ _
  unfold Builtin.List.listExtendWith
  refine wpAny_bind (wpAny_typeOf hT ?_)
  have h1 : Builtin.List.listSameRef (.ref s.heap.objs.size) (.ref I) = false := by simp [Builtin.List.listSameRef, hSI]
  have h2 : (Value.type "list_reverseiterator" == Value.type "list") = false := by decide
  have h3 : (Value.type "list_reverseiterator" == Value.type "tuple") = false := by decide
  simp only [h1, h2, h3, Bool.or_false, Bool.false_eq_true, if_false]
  refine wpAny_bind (W.self 0 _ _ _ hst₁ ?_)
  refine wpAny_bind (wpAny_holding (hint_rev hT ?_))
  have hS₁ : (s.heap.push { cls := .type "list", data := .seq ([] : List Value).toArray }).get? s.heap.objs.size = some { cls := .type "list", data := .seq ([] : List Value).toArray } := Heap.get?_push_size _ rfl
  show wpAny _ A.in1 (again (.builtin "list.extend.loop" ⟨[.ref s.heap.objs.size, .ref I, .ref s.heap.objs.size], []⟩)) _ _ _
  refine wpAny_pure ⟨plainId_quiet F.plain_extend_loop _, codeAny_extend_loopS W hz _ hSf _ items.size 0 _ _ _ rfl (Nat.zero_le _) hst₁ hS₁ (ItemsOf.nil _) fun s' acc' c' hm hS' hacc => ?_⟩
  show wpAny _ A (load s.heap.objs.size >>= _) _ _ s'
  refine wpAny_bind (wpAny_load hS' ?_)
  refine wpAny_pure (hQ s' acc' ⟨fun b o hb e => hm.heap b o (fun z => ?_) (kk b o e), hm.gens, hm.drawn, hm.os, hm.toks⟩ hacc)
  rcases List.mem_cons.mp z with z | z
  · rw [z] at e; exact absurd (Heap.lt_size e) (Nat.lt_irrefl _)
  · exact hb z
theorem join_rev {sep : Str} {t : Tok} {l : Addr} {items : List (Str × Tok)} {Q : Value → Shared → Prop} (hh : A.handled = none) (hne : l ≠ I) (hit : s.heap.IsRevIter I l ((items.length : Int) - 1)) (hl : s.heap.IsList l (strValues items).toArray) (hz : items.length ≤ sizeLine)
    (hok : JoinOk sep (items.reverse.map (·.1)) = true) (hQ : ∀ s' t' k, Moved [I] (fun a b => b = a) s s' → Q (.str (Txt.join sep (items.reverse.map (·.1))) t') { s' with toks := k }) :
    wpAny (model prog w) A (call (.builtin "str.join") [.str sep t, .ref I]) Q E s := by
  refine wpAny_call (codeAny_call_builtin F.slot_str_join.plain F.entry_str_join (F.slot_str_join.check _ _ _ _ _ _ _ _ (typeIs_str _ _ _) (F.args_str_join_2 _ _) ?_))
  rw [join_tree_other]
  have hsz : (strValues items).toArray.size = items.length := by rw [List.size_toArray]; unfold strValues; rw [List.length_map]
  refine wpAny_bind (wpAny_typeOf hit.typeIs ?_)
  show wpAny _ A.in1 ((pyIter (.ref I)).tryCatch _ >>= fun it => collect it >>= fun xs => joinTail sep xs) _ _ s
  refine wpAny_bind (wpAny_tryCatch (wpAny_pyIter_revIter hit ?_))
  refine wpAny_bind (collect_rev (A := A.in1) hh hne (items := (strValues items).toArray) (by rw [hsz]; exact hit) hl (by rw [hsz]; exact hz) fun s' acc hm hacc => ?_)
  have e : acc.toList = strValues items.reverse := by
    obtain ⟨h1, h2⟩ := hacc
    rw [hsz] at h1 h2
    refine List.ext_getElem? fun i => ?_
    have hr : strValues items.reverse = (strValues items).reverse := by unfold strValues; rw [List.map_reverse]
    have hlen : (strValues items).length = items.length := by unfold strValues; rw [List.length_map]
    rw [hr]
    by_cases hi : i < items.length
    · have ha : acc.toList[i]? = some acc[i] := by simp [Array.getElem?_eq_getElem (show i < acc.size by omega)]
      have hb := h2 i acc[i] (Array.getElem?_eq_getElem (by omega))
      rw [ha, List.getElem?_reverse (by rw [hlen]; exact hi), hlen]
      have hb' : (strValues items)[items.length - 1 - i]? = some acc[i] := by simpa using hb
      exact hb'.symm
    · rw [List.getElem?_eq_none (by rw [Array.length_toList, h1]; omega), List.getElem?_eq_none (by rw [List.length_reverse, hlen]; omega)]
  rw [e]
  unfold JoinOk at hok
  rw [Bool.not_eq_true'] at hok
  have g := gives_made hok
  exact g prog w A (wants Q E) s' (post_join items.reverse ⟨joinFit_length hok, fun t' k => hQ s' t' k hm⟩)
end
/-- sep.join(reversed(list of texts)) -/
def tJoinRev (to : TE) (ta : TA) : TE := fun σ H Q => to σ H fun x H1 => ∃ sep, x = .str sep ∧ ta σ H1 fun vs H2 => ∃ (l : Addr) (ts : List Str), vs = [.ref l] ∧ H2 l = some (.lst (ts.map V.str)) ∧ JoinOk sep ts.reverse = true ∧ Q (.str (Txt.join sep ts.reverse)) H2
theorem vals_strs_of {ts : List Str} : ∀ {us : List Value}, Vals (ts.map V.str) us → ∃ l : List (Str × Tok), us = strValues l ∧ l.map (·.1) = ts := by
  induction ts with
  | nil => intro us r; cases r; exact ⟨[], rfl, rfl⟩
  | cons t ts ih =>
    intro us r
    cases r with
    | cons r rr =>
      obtain ⟨k, rfl⟩ := r
      obtain ⟨l, rfl, e⟩ := ih rr
      exact ⟨(t, k) :: l, rfl, by rw [List.map_cons, e]⟩
theorem boot_reversed : bootBuiltins (Str.ofString "reversed") = some (Value.type "reversed") := by decide +kernel
section
variable {X : Cx} {o a : Expr} {to : TE} {ta : TA} {np p2 apos cpos : Pos}
theorem we_joinRev (hc : X.calm = true) (ho : PEw X o to) (hg : Gl X "reversed") (hm : X.mg "reversed" = none) (ha : PAw X [a] ta)
    (hbase : attributeBase o "join" X.env (eval o X.env) = eval o X.env := by rfl) (hs : starEach [a] X.env = [(false, eval a X.env)] := by first | exact se_Name | rfl)
    (hfew : ((backTo cpos (starEach [.Call (.Name "reversed" np) [a] [] p2] X.env)).all (fun x => !x.1) && (backToKw cpos (keywordEach [] X.env)).all (fun x => x.1.isSome)
      && decide (([.Call (.Name "reversed" np) [a] [] p2] : List Expr).length + ([] : List Keyword).length + (if ([] : List Keyword).isEmpty then 0 else 1) < 30)) = true := by rfl)
    (hline : (apos.endLine == cpos.line) = true := by rfl) :
    PEw X (.Call (.Attribute o "join" apos) [.Call (.Name "reversed" np) [a] [] p2] [] cpos) (tJoinRev to ta) := ⟨by
  intro pins s σ H Q I h
  refine wpAny_Call_method hbase hfew hline PySem.F.plainAttrs_str PySem.F.slot_str_join PySem.F.type_str_join (thn (ho.p pins s σ H _ I h) fun u s1 ⟨x, H1, I1, rx, sep, ex, q1⟩ => ?_)
  subst ex
  obtain ⟨t, rfl⟩ := rx
  refine ⟨typeIs_str _ _ _, ⟨(fun a e => by cases e), ?_⟩⟩
  have hst : starEach [.Call (.Name "reversed" np) [a] [] p2] X.env = [(false, eval (.Call (.Name "reversed" np) [a] [] p2) X.env)] := rfl
  rw [hst]
  refine Calls.callWith_builtin rfl (Calls.evalArgs_plain (Calls.spliced_cons ?_))
  refine Call_ (ld_blt I1 hg hm boot_reversed (PyProof.Rows.callWith_type1 (thn (ha.p p2 pins s1 σ H1 _ I1 q1) fun us s2 ⟨vs, H2, I2, r2, l, ts, ev, el, hok, q2⟩ => ?_) hs rfl))
  subst ev
  obtain ⟨_, rfl, r3⟩ := vals1 r2
  cases r3
  obtain ⟨z, its, n, rv, hl, eo⟩ := I2.lstM el
  obtain ⟨items, rfl, et⟩ := vals_strs_of rv
  refine call_reversed_list (items := (strValues items).toArray) ⟨_, eo, rfl, n, rfl⟩ ?_
  have kk : ∀ b u, s2.heap.get? b = some u → (s2.heap.push (revObj l (((strValues items).toArray.size : Int) - 1))).get? b = some u := fun b u q => Heap.get?_push_of_some _ q
  have I3 : Inv X pins σ H2 { s2 with heap := s2.heap.push (revObj l (((strValues items).toArray.size : Int) - 1)) } := I2.kept (t' := s2.toks) kk
  have fo := I2.fpOk (H' := H2) (Nat.le_refl _) I2.fresh
  have hlen : (strValues items).toArray.size = items.length := by rw [List.size_toArray]; unfold strValues; rw [List.length_map]
  have hts : items.reverse.map (·.1) = ts.reverse := by rw [List.map_reverse, et]
  refine Calls.spliced_nil ?_
  refine join_rev (l := l) (items := items) (I2.ok.hd hc) (Nat.ne_of_lt (Heap.lt_size eo)) ⟨_, Heap.get?_push_size _ rfl, rfl, by rw [hlen]; rfl⟩ ⟨_, kk _ _ eo, rfl, n, rfl⟩ (by rw [← et, List.length_map, List.length_map] at z; exact z) (by rw [hts]; exact hok) fun s' t' k hm => ?_
  obtain ⟨h', g', d', tk', o'⟩ := s'
  obtain ⟨m1, m2, m3, m4, m5⟩ := hm
  dsimp only at m1 m2 m3 m4
  subst m2 m3 m4
  rw [hts]
  refine ⟨.str _, H2, ?_, ⟨t', rfl⟩, q2⟩
  have I4 := I3.turned (h' := h') (t' := k) (it := s2.heap.objs.size) (fun b o hb e => m1 b o (fun z => hb (List.mem_singleton.mp z)) e) I2.fresh
  obtain ⟨f1, f2, f3, f4, f5, f6⟩ := fo
  exact I4 f2 f4 f5 f6⟩
end
end L2

set_option Elab.async false
set_option linter.all false
set_option maxRecDepth 100000
namespace L2
open PySem PySem.W PySem.Spec PySem.Calls PyProof.Rows
/-! ### the signs of a text, one behind another -/
def Its (x : Str) : It := ⟨fun i _ => i < x.cps.size, fun i H v H' => H' = H ∧ ∃ c, x.cps[i]? = some c ∧ v = .str ⟨#[c]⟩, fun i _ => x.cps.size ≤ i⟩
theorem turn_str {P : Program} {w : World} {K : PySem.W.Frag} {tg : Expr} {x : Str} {t : Tok} {it : Addr} : Turn P w K tg (Its x) [it] it (fun i h => h.IsStrIter it (strIterType x) x t i) where
  mem := by simp
  obj := fun i h st b hb => by
    have e : b = it := by simpa using hb
    subst e
    obtain ⟨o, e, c, d⟩ := st
    exact ⟨o, e, fun v z => by rw [d] at z; cases z⟩
  keep := fun i h h' st k => let ⟨o, e, r⟩ := st; ⟨o, k it (by simp) o e, r⟩
  item := by
    intro X hP hw hK hc i pins s σ H E I hf st hg
    subst hP hw hK
    obtain ⟨f0, f1, f2, f3, f4, f5⟩ := hf it (by simp)
    have hx : x.cps[i]? = some x.cps[i] := Array.getElem?_eq_getElem hg
    have fin : ∀ h', h'.IsStrIter it (strIterType x) x t (i + 1) → Heap.SameBut it s.heap h' → ∃ u, some (Value.str ⟨#[x.cps[i]]⟩ s.toks) = some u ∧
        wpAny (model X.prog X.w) X.A (letOwnedTupleGo tg (.ref it) u) (fun _ s2 => ∃ v H', Inv X pins σ H' s2 ∧ RelV v u ∧ (Its x).yld i H v H' ∧ s2.heap.IsStrIter it (strIterType x) x t (i + 1) ∧ ∀ b ∈ [it], H' b = none) E { s with heap := h', toks := s.toks + 1 } := by
      intro h' st' sb
      have I1 : Inv X pins σ H { s with heap := h', toks := s.toks + 1 } := I.turned (t' := s.toks + 1) (fun b o hb e => (sb.2 b hb).trans e) f0 f1 f3 f4 f5
      obtain ⟨o, e, c, d⟩ := id st'
      refine ⟨_, rfl, go_of (s := { s with heap := h', toks := s.toks + 1 }) e c d ?_ ⟨.str ⟨#[x.cps[i]]⟩, H, I1, ⟨_, rfl⟩, ⟨rfl, _, hx, rfl⟩, st', fun b hb => (hf b hb).1⟩⟩
      unfold strIterType
      split <;> decide
    cases ha : x.cps.all (· < 128)
    · have e : strIterType x = "str_iterator" := by unfold strIterType; rw [ha]; rfl
      rw [e] at st
      exact wpAny_pyNext_wide_item st hx fun h' st' sb => fin h' (by rw [e]; exact st') sb
    · have e : strIterType x = "str_ascii_iterator" := by unfold strIterType; rw [ha]; rfl
      rw [e] at st
      exact wpAny_pyNext_ascii_item st hx fun h' st' sb => fin h' (by rw [e]; exact st') sb
  done := by
    intro X hP hw hK hc i pins s σ H E I hf st hg
    subst hP hw hK
    obtain ⟨f0, f1, f2, f3, f4, f5⟩ := hf it (by simp)
    have hx : x.cps[i]? = none := Array.getElem?_eq_none hg
    unfold strIterType at st
    cases ha : x.cps.all (· < 128)
    · rw [ha] at st
      exact wpAny_pyNext_wide_end (I.ok.hd hc) st hx fun h' eb => ⟨rfl, I.turned (t' := s.toks) (fun b o hb e => eb b o hb e) f0 f1 f3 f4 f5⟩
    · rw [ha] at st
      exact wpAny_pyNext_ascii_end (I.ok.hd hc) st hx fun h' eb => ⟨rfl, I.turned (t' := s.toks) (fun b o hb e => eb b o hb e) f0 f1 f3 f4 f5⟩
  self := fun A i s Q E st h => by
    unfold strIterType at st
    cases ha : x.cps.all (· < 128)
    · rw [ha] at st; exact wpAny_pyIter_striter_wide st h
    · rw [ha] at st; exact wpAny_pyIter_striter_ascii st h
section
variable {X : Cx} {tg : Expr}
def iStr (tl : TE) : TI := fun σ H R => tl σ H fun v H1 => ∃ x, v = .str x ∧ R (Its x) H1
theorem wi_str {l : Expr} {tl : TE} (hl : PEw X l tl) : PIw X tg l (iStr tl) := ⟨by
  intro pins s σ H R I h
  refine thn (hl.p pins s σ H _ I h) fun v s1 ⟨x, H1, I1, r1, q1⟩ => ?_
  obtain ⟨a, e, q⟩ := q1
  subst e
  obtain ⟨t, rfl⟩ := r1
  refine wpAny_pyIter_strU ?_
  refine ⟨s1.heap.objs.size, [s1.heap.objs.size], _, _, H1, rfl, I1.kept (t' := s1.toks) fun b o e => Heap.get?_push_of_some _ e, turn_str, ⟨_, Heap.get?_push_size _ rfl, rfl, rfl⟩, fun b hb => ?_, q⟩
  have e : b = s1.heap.objs.size := by simpa using hb
  subst e
  exact I1.fpOk (Nat.le_refl _) (I1.hok.fresh (Nat.le_refl _))⟩
end
/-! [f(c) for c in text if p(c)] -/
section
variable {js : List Nat} {te : TE} {tc : TT} {σ : St} {H : Hp} {Q : VK}
theorem comp_str {x : Str} (p : Nat → Bool) (f : Nat → V) (hz : x.length ≤ 100000)
    (ht : ∀ c H' (Q' : Bool → Hp → Prop), c ∈ x.cps.toList → Q' (p c) H' → tc (some (.str ⟨#[c]⟩) :: slots σ js) H' Q')
    (he : ∀ c H' (Q' : VK), c ∈ x.cps.toList → Q' (f c) H' → te (some (.str ⟨#[c]⟩) :: slots σ js) H' Q')
    (hd : ∀ D H', H D = none → H' D = some (.lst ((x.cps.toList.filter p).map f)) → Same H H' → Q (.ref D) H') : CompB (Its x) σ js tc te H Q := by
  unfold CompB
  intro D hD
  refine ⟨fun i m ys H' => m = x.cps.size - i ∧ i ≤ x.cps.size ∧ ys = ((x.cps.toList.take i).filter p).map f ∧ H' D = some (.lst ys) ∧ ∀ b o, H b = some o → H' b = some o, ⟨x.cps.size, by simp, Nat.zero_le _, rfl, upd_same, Same.upd hD⟩, ?_⟩
  rintro i m ys H2 ⟨rfl, hi, hy, hD2, sm⟩
  refine ⟨hD2, ?_⟩
  by_cases hlt : i < x.cps.size
  · have hl : ys.length ≤ i := by
      rw [hy, List.length_map]
      refine Nat.le_trans (List.length_filter_le _ _) ?_
      rw [List.length_take]
      exact Nat.min_le_left _ _
    have hx : x.cps[i]? = some x.cps[i] := Array.getElem?_eq_getElem hlt
    have hm : x.cps[i] ∈ x.cps.toList := by simp
    have hti : x.cps.toList.take (i + 1) = x.cps.toList.take i ++ [x.cps[i]] := by
      rw [List.take_add_one]
      congr 1
      simp [hlt]
    refine .inr ⟨hlt, Nat.lt_of_le_of_lt (m := 100000) (by have : x.length = x.cps.size := rfl; omega) (by decide), fun v H3 hy3 => ?_⟩
    obtain ⟨rfl, c, hc, rfl⟩ := hy3
    rw [hx] at hc
    cases hc
    refine ⟨fun b H4 => b = p x.cps[i] ∧ H4 = H3, ht _ _ _ hm ⟨rfl, rfl⟩, ?_⟩
    rintro b H4 ⟨rfl, rfl⟩
    by_cases hp : p x.cps[i] = true
    · rw [if_pos hp]
      refine ⟨fun v H5 => v = f x.cps[i] ∧ H5 = H4, he _ _ _ hm ⟨rfl, rfl⟩, ?_⟩
      rintro v H5 ⟨rfl, rfl⟩
      refine ⟨hD2, x.cps.size - (i + 1), by omega, rfl, hlt, ?_, upd_same, fun b o hb => ?_⟩
      · rw [hti, List.filter_append, List.map_append, hy]
        simp [hp]
      · rw [upd_ne (ne_of_none hb hD)]
        exact sm b o hb
    · rw [if_neg hp]
      refine ⟨hD2, x.cps.size - (i + 1), by omega, rfl, hlt, ?_, hD2, sm⟩
      rw [hti, List.filter_append, List.map_append, hy]
      simp [hp]
  · have e : i = x.cps.size := by omega
    subst e
    refine .inl ⟨Nat.le_refl _, hd D H2 hD ?_ sm⟩
    rw [hD2, hy, List.take_of_length_le (by simp)]
end
end L2

set_option Elab.async false
set_option linter.all false
set_option maxRecDepth 100000
namespace L2
open PySem PySem.W PySem.Spec PySem.Calls PyProof.Rows
/-! ### repr of a tuple of great numbers -/
theorem meets_int_reprB {a : Int} {t : Tok} (ha : a.natAbs < 10 ^ 4300) : Meets (Builtin.«int.__repr__» ⟨[.int a t], []⟩) (fun A R s => s.heap.NoDigits ∧ R (.ok (.ret (.str (toString a) s.toks))) { s with toks := s.toks + 1 }) :=
  .of_wp fun prog w A R s h => by
    obtain ⟨nd, h⟩ := h
    unfold Builtin.«int.__repr__»
    show wpAny _ _ (do let r ← Builtin.overDigitLimit? a; _) _ _ s
    refine wpAny_bind (overDigitLimit_any nd (fun hlt => ?_) (fun hge => absurd ha (Nat.not_lt.mpr hge)))
    exact wpAny_bind (wpAny_mkStr (wpAny_pure ⟨_, rfl, h⟩) (int_text_fits10 ha))
section
variable {prog : Program} {w : World} {A : Around} {E : Value → Shared → Prop} {s : Shared}
theorem pyReprObj_intB {a : Int} {t : Tok} {Q : Value → Shared → Prop} (nd : s.heap.NoDigits) (ha : a.natAbs < 10 ^ 4300) (h : Q (.str (toString a) s.toks) { s with toks := s.toks + 1 }) : wpAny (model prog w) A (pyReprObj (.int a t)) Q E s := by
  unfold pyReprObj
  have hv : [Value.int a t].any Value.onHeap = false := rfl
  simp only [cRoomFor, hv, Bool.false_eq_true, if_false, pure_bind]
  refine wpAny_bind (wpAny_specialOf (name := Str.ofString "__repr__") (typeIs_int s a t) F.slot_int_repr.lookup ?_)
  refine wpAny_bind (m := callSpecialIfBound? (.int a t) (Str.ofString "__repr__")) (wpAny_callSpecialIfBound?_slot (name := Str.ofString "__repr__") (typeIs_int s a t) F.slot_int_repr
    (call_meets F.slot_int_repr (typeIs_int s a t) F.entry_int_repr (F.args_int_repr_1 _) (meets_int_reprB ha) ⟨nd, ?_⟩))
  exact wpAny_bind (wpAny_isInstance (T := "str") (b := true) rfl isSubtype_str_str (wpAny_pure h))
theorem reprK_intB {h₀ : Heap} {a : Int} (t : Tok) (nd : h₀.NoDigits) (ha : a.natAbs < 10 ^ 4300) (as : List Addr) (d : Nat) : ReprK prog w as h₀ d (.int a t) (toString a) :=
  fun base hb A g E s Q hg hcl hu hk hQ => by
    have hn' : base ≤ sizeLine := by omega
    rw [pyReprUnder_leaf (v := .int a t) hn' (fun _ e => nomatch e)]
    unfold pyRepr
    exact wpAny_bind (pyReprObj_intB (nd.keeps hk) ha (wpAny_pure (hQ _ _ fun _ _ e => e)))
end
section
variable {X : Cx}
/-- repr of None, or of a tuple of two ints -/
@[irreducible] def rReprB : List V → Hp → VK → Prop := fun xs H Q => (xs = [.non] ∧ Q (.str "None") H) ∨ ∃ (a : Addr) (n d : Int), xs = [.ref a] ∧ H a = some (.tup [.int n, .int d]) ∧ n.natAbs < 10 ^ 4300 ∧ d.natAbs < 10 ^ 4300 ∧ Q (.str (tupleText [toString n, toString d])) H
theorem rreprN {H : Hp} {Q : VK} (q : Q (.str "None") H) : rReprB [.non] H Q := by unfold rReprB; exact .inl ⟨rfl, q⟩
theorem rreprT {H : Hp} {Q : VK} {a : Addr} {n d : Int} (e : H a = some (.tup [.int n, .int d])) (hn : n.natAbs < 10 ^ 4300) (hd : d.natAbs < 10 ^ 4300) (q : Q (.str (tupleText [toString n, toString d])) H) : rReprB [.ref a] H Q := by
  unfold rReprB; exact .inr ⟨a, n, d, rfl, e, hn, hd, q⟩
theorem tuple2_len {n d : Int} (hn : n.natAbs < 10 ^ 4300) (hd : d.natAbs < 10 ^ 4300) : (tupleText [Str.ofString (toString n), Str.ofString (toString d)]).length ≤ sizeLine := by
  have h := tupleText_le [Str.ofString (toString n), Str.ofString (toString d)]
  have h1 : (Str.ofString (toString n)).length ≤ 4301 := by rw [PySem.ofString_length]; exact int_text_length_le10 (k := 4300) (by decide) hn
  have h2 : (Str.ofString (toString d)).length ≤ 4301 := by rw [PySem.ofString_length]; exact int_text_length_le10 (k := 4300) (by decide) hd
  rw [piled_cons, piled_cons] at h
  have h3 : piled ([] : List Str) = 0 := rfl
  rw [h3] at h
  rw [sizeLine_eq]
  clear hn hd
  omega
theorem cl_reprB (nd : NoDig X.K) (hg : X.A.guards = some []) (hu : X.A.units + 64 < cLine) : CallR X (.builtin "repr") rReprB := by
  unfold rReprB
  intro pins s σ H xs us Q I r h
  rcases h with ⟨rfl, q⟩ | ⟨a, n, d, rfl, e, hn, hd, q⟩
  · obtain ⟨u, rfl, ru⟩ := vals1 r
    cases ru
    exact PySem.P.repr_of_none ⟨.str _, H, I.tok _, ⟨_, rfl⟩, q⟩
  · obtain ⟨u, rfl, ru⟩ := vals1 r
    cases ru
    obtain ⟨_, its, rt, o, e1, e2, n0, e3⟩ := (show ObjOk X.prog X.w H s.heap a (.tup [.int n, .int d]) from I.hok a _ e)
    obtain ⟨u1, u2, rfl, ⟨t1, rfl⟩, ⟨t2, rfl⟩⟩ := vals2 rt
    have NN := nd.at I.kIn
    refine call_repr_slot (by omega) ⟨o, e1, e2⟩ F.slot_tuple_repr ?_
    refine call_tuple_reprK (h₀ := s.heap) (as := []) (d := 0) (ts := [toString n, toString d]) e1 e2 e3 (by simp) (.cons (reprK_intB t1 NN hn _ _) (.cons (reprK_intB t2 NN hd _ _) .nil)) (A := X.A.in1) hg (fun b _ => Clear.nil b) (by show X.A.units + 1 + 1 < cLine; omega) (fun _ _ e => e) (fun h' u tk hk => ?_) (tuple2_len hn hd)
    exact ⟨_, _, rfl, ⟨.str _, H, I.kept hk, ⟨_, rfl⟩, q⟩⟩
end
end L2

set_option linter.all false
/-! fractions: the mathematics -/
namespace Mf
/-- n / d brought down -/
def lw (n d : Int) : Int × Int := (n / (Int.gcd n d : Int), d / (Int.gcd n d : Int))
structure Low (n d : Int) : Prop where
  pos : 0 < d
  low : Int.gcd n d = 1
theorem gcd_pos {n d : Int} (h : 0 < d) : 0 < (Int.gcd n d : Int) := by
  have := Int.gcd_pos_of_ne_zero_right n (Int.ne_of_gt h)
  omega
theorem lw_low {n d : Int} (h : 0 < d) : Low (lw n d).1 (lw n d).2 := by
  have g := gcd_pos (n := n) h
  refine ⟨?_, ?_⟩
  · exact Int.ediv_pos_of_pos_of_dvd h (Int.le_of_lt g) (Int.gcd_dvd_right n d)
  · exact Int.gcd_ediv_gcd_ediv_gcd (by omega)
theorem lw_eq {n d : Int} : (lw n d).1 * (Int.gcd n d : Int) = n ∧ (lw n d).2 * (Int.gcd n d : Int) = d :=
  ⟨Int.ediv_mul_cancel (Int.gcd_dvd_left n d), Int.ediv_mul_cancel (Int.gcd_dvd_right n d)⟩
theorem lw_cross {n d : Int} : (lw n d).1 * d = n * (lw n d).2 := by
  obtain ⟨e1, e2⟩ := lw_eq (n := n) (d := d)
  generalize (lw n d).1 = a at *
  generalize (lw n d).2 = b at *
  generalize (Int.gcd n d : Int) = g at *
  rw [← e1, ← e2]
  rw [Int.mul_assoc, Int.mul_comm g b]
theorem dvd_cop {b a d : Int} (h : b ∣ a * d) (g : Int.gcd b a = 1) : b ∣ d := by
  rw [← Int.natAbs_dvd_natAbs, Int.natAbs_mul] at h
  rw [← Int.natAbs_dvd_natAbs]
  rw [Int.gcd_eq_natAbs_gcd_natAbs] at g
  exact Nat.Coprime.dvd_of_dvd_mul_left g h
/-- two lowest ones that are worth the same are the same -/
theorem low_uniq {a b c d : Int} (h1 : Low a b) (h2 : Low c d) (e : a * d = c * b) : a = c ∧ b = d := by
  have d1 : b ∣ d := by
    have : b ∣ a * d := by rw [e]; exact Int.dvd_mul_left c b
    exact dvd_cop this (by rw [Int.gcd_comm]; exact h1.low)
  have d2 : d ∣ b := by
    have : d ∣ c * b := by rw [← e]; exact Int.dvd_mul_left a d
    exact dvd_cop this (by rw [Int.gcd_comm]; exact h2.low)
  have hb := h1.pos
  have hd := h2.pos
  have e1 : b = d := Int.dvd_antisymm (Int.le_of_lt hb) (Int.le_of_lt hd) d1 d2
  subst e1
  exact ⟨Int.eq_of_mul_eq_mul_right (by omega) e, rfl⟩
theorem low_lw {a b n d : Int} (h : Low a b) (hd : 0 < d) (e : a * d = n * b) : lw n d = (a, b) := by
  have c := lw_cross (n := n) (d := d)
  have q := low_uniq (lw_low (n := n) hd) h (by
    -- (lw).1 * b = a * (lw).2
    have hd' : d ≠ 0 := by omega
    apply Int.eq_of_mul_eq_mul_right hd'
    calc (lw n d).1 * b * d = ((lw n d).1 * d) * b := by rw [Int.mul_assoc, Int.mul_comm b d, ← Int.mul_assoc]
      _ = (n * (lw n d).2) * b := by rw [c]
      _ = (n * b) * (lw n d).2 := by rw [Int.mul_assoc, Int.mul_comm (lw n d).2 b, ← Int.mul_assoc]
      _ = (a * d) * (lw n d).2 := by rw [e]
      _ = a * (lw n d).2 * d := by rw [Int.mul_assoc, Int.mul_comm d, ← Int.mul_assoc])
  exact Prod.ext q.1 q.2
theorem lw_self {a b : Int} (h : Low a b) : lw a b = (a, b) := low_lw h h.pos rfl

/-! ### coprime -/
theorem cop_mul {u a b : Int} (h1 : Int.gcd u a = 1) (h2 : Int.gcd u b = 1) : Int.gcd u (a * b) = 1 := by
  rw [Int.gcd_eq_natAbs_gcd_natAbs] at *
  rw [Int.natAbs_mul]
  exact Nat.Coprime.mul_right h1 h2
theorem cop_of_dvd {a b c : Int} (h : Int.gcd a b = 1) (d : c ∣ b) : Int.gcd a c = 1 := by
  have := Int.gcd_dvd_gcd_of_dvd_right a d
  rw [h] at this
  exact Nat.eq_one_of_dvd_one this
theorem cop_of_dvd_left {a b c : Int} (h : Int.gcd a b = 1) (d : c ∣ a) : Int.gcd c b = 1 := by
  rw [Int.gcd_comm] at *; exact cop_of_dvd h d
/-! ### the program's ways -/
/-- plus: the upper number before it is brought down, and the rest -/
theorem plus_eq {a b c d : Int} (h1 : Low a b) (h2 : Low c d) :
    let g : Int := Int.gcd b d
    let u := a * (d / g) + c * (b / g)
    let l : Int := Int.gcd u g
    lw (a * d + c * b) (b * d) = (u / l, (b / g) * (d / l)) := by
  intro g u l
  have hg : 0 < g := gcd_pos h2.pos
  have hl : 0 < l := gcd_pos hg
  obtain ⟨b', eb⟩ := Int.gcd_dvd_left b d
  obtain ⟨d', ed⟩ := Int.gcd_dvd_right b d
  have eb : b = g * b' := eb
  have ed : d = g * d' := ed
  have qb : b / g = b' := by rw [eb]; exact Int.mul_ediv_cancel_left _ (by omega)
  have qd : d / g = d' := by rw [ed]; exact Int.mul_ediv_cancel_left _ (by omega)
  have eu : u = a * d' + c * b' := by show a * (d / g) + c * (b / g) = _; rw [qb, qd]
  have cbd : Int.gcd b' d' = 1 := by
    have := Int.gcd_ediv_gcd_ediv_gcd (i := b) (j := d) (by have : 0 < (Int.gcd b d : Int) := hg; omega)
    have h : Int.gcd (b / g) (d / g) = 1 := this
    rwa [qb, qd] at h
  have cab : Int.gcd a b' = 1 := cop_of_dvd h1.low ⟨g, by rw [eb, Int.mul_comm]⟩
  have ccd : Int.gcd c d' = 1 := cop_of_dvd h2.low ⟨g, by rw [ed, Int.mul_comm]⟩
  have ub : Int.gcd u b' = 1 := by
    rw [eu, Int.add_comm, Int.gcd_mul_right_add_left, Int.gcd_mul_right_left_of_gcd_eq_one cab, Int.gcd_comm]; exact cbd
  have ud : Int.gcd u d' = 1 := by
    rw [eu, Int.gcd_mul_right_add_left, Int.gcd_mul_right_left_of_gcd_eq_one ccd]; exact cbd
  obtain ⟨u', eu'⟩ := Int.gcd_dvd_left u g
  obtain ⟨g', eg'⟩ := Int.gcd_dvd_right u g
  have eu' : u = l * u' := eu'
  have eg' : g = l * g' := eg'
  have qu : u / l = u' := by rw [eu']; exact Int.mul_ediv_cancel_left _ (by omega)
  have qdl : d / l = g' * d' := by rw [ed, eg', Int.mul_assoc]; exact Int.mul_ediv_cancel_left _ (by omega)
  have cug : Int.gcd u' g' = 1 := by
    have := Int.gcd_ediv_gcd_ediv_gcd (i := u) (j := g) (by have : 0 < (Int.gcd u g : Int) := hl; omega)
    have h : Int.gcd (u / l) (g / l) = 1 := this
    rw [qu] at h
    rwa [show g / l = g' from by rw [eg']; exact Int.mul_ediv_cancel_left _ (by omega)] at h
  rw [qu, qb, qdl]
  have hu' : u' ∣ u := ⟨l, by rw [eu', Int.mul_comm]⟩
  have hb' : 0 < b' := by
    have := h1.pos; rw [eb] at this; exact Int.pos_of_mul_pos_right this (by omega)
  have hd' : 0 < d' := by
    have := h2.pos; rw [ed] at this; exact Int.pos_of_mul_pos_right this (by omega)
  have hg' : 0 < g' := by
    have := hg; rw [eg'] at this; exact Int.pos_of_mul_pos_right this (by omega)
  refine low_lw ⟨Int.mul_pos hb' (Int.mul_pos hg' hd'), ?_⟩ (Int.mul_pos h1.pos h2.pos) ?_
  · exact cop_mul (cop_of_dvd_left ub hu') (cop_mul cug (cop_of_dvd_left ud hu'))
  · have e1 : a * d + c * b = g * (l * u') := by
      rw [← eu', eu, eb, ed]
      rw [Int.mul_add, Int.mul_left_comm a, Int.mul_left_comm c]
    rw [e1, eb, ed]
    generalize hG : g = G at *
    rw [eg']
    simp only [Int.mul_assoc, Int.mul_left_comm, Int.mul_comm]
theorem times_eq {a b c d : Int} (h1 : Low a b) (h2 : Low c d) :
    let f : Int := Int.gcd a d
    let s : Int := Int.gcd c b
    lw (a * c) (b * d) = ((a / f) * (c / s), (b / s) * (d / f)) := by
  intro f s
  have hf : 0 < f := gcd_pos h2.pos
  have hs : 0 < s := gcd_pos h1.pos
  obtain ⟨a', ea⟩ := Int.gcd_dvd_left a d
  obtain ⟨d', ed⟩ := Int.gcd_dvd_right a d
  obtain ⟨c', ec⟩ := Int.gcd_dvd_left c b
  obtain ⟨b', eb⟩ := Int.gcd_dvd_right c b
  have ea : a = f * a' := ea
  have ed : d = f * d' := ed
  have ec : c = s * c' := ec
  have eb : b = s * b' := eb
  have qa : a / f = a' := by rw [ea]; exact Int.mul_ediv_cancel_left _ (by omega)
  have qd : d / f = d' := by rw [ed]; exact Int.mul_ediv_cancel_left _ (by omega)
  have qc : c / s = c' := by rw [ec]; exact Int.mul_ediv_cancel_left _ (by omega)
  have qb : b / s = b' := by rw [eb]; exact Int.mul_ediv_cancel_left _ (by omega)
  have cad : Int.gcd a' d' = 1 := by
    have := Int.gcd_ediv_gcd_ediv_gcd (i := a) (j := d) (by have : 0 < (Int.gcd a d : Int) := hf; omega)
    have h : Int.gcd (a / f) (d / f) = 1 := this
    rwa [qa, qd] at h
  have ccb : Int.gcd c' b' = 1 := by
    have := Int.gcd_ediv_gcd_ediv_gcd (i := c) (j := b) (by have : 0 < (Int.gcd c b : Int) := hs; omega)
    have h : Int.gcd (c / s) (b / s) = 1 := this
    rwa [qc, qb] at h
  have cab : Int.gcd a' b' = 1 := cop_of_dvd_left (cop_of_dvd h1.low ⟨s, by rw [eb, Int.mul_comm]⟩) ⟨f, by rw [ea, Int.mul_comm]⟩
  have ccd : Int.gcd c' d' = 1 := cop_of_dvd_left (cop_of_dvd h2.low ⟨f, by rw [ed, Int.mul_comm]⟩) ⟨s, by rw [ec, Int.mul_comm]⟩
  have hb' : 0 < b' := by
    have := h1.pos; rw [eb] at this; exact Int.pos_of_mul_pos_right this (by omega)
  have hd' : 0 < d' := by
    have := h2.pos; rw [ed] at this; exact Int.pos_of_mul_pos_right this (by omega)
  rw [qa, qb, qc, qd]
  refine low_lw ⟨Int.mul_pos hb' hd', ?_⟩ (Int.mul_pos h1.pos h2.pos) ?_
  · have x1 : Int.gcd a' (b' * d') = 1 := cop_mul cab cad
    have x2 : Int.gcd c' (b' * d') = 1 := cop_mul ccb ccd
    rw [Int.gcd_comm] at x1 x2 ⊢
    exact cop_mul x1 x2
  · rw [ea, eb, ec, ed]
    simp only [Int.mul_assoc, Int.mul_left_comm, Int.mul_comm]
end Mf

set_option linter.all false
/-! lists of fractions: the mathematics -/
namespace Mf
abbrev Fr := Int × Int
def addF (x y : Fr) : Fr := lw (x.1 * y.2 + y.1 * x.2) (x.2 * y.2)
def totF (fs : List Fr) : Fr := fs.foldl addF (0, 1)
def whole (fs : List Fr) : Int := fs.foldl (fun w f => w * f.2) 1
def sumN (fs : List Fr) (W : Int) : Int := (fs.map fun f => f.1 * (W / f.2)).sum
def LowF (f : Fr) : Prop := Low f.1 f.2
theorem rev_ind {α : Type} {P : List α → Prop} (h0 : P []) (hs : ∀ l a, P l → P (l ++ [a])) (l : List α) : P l := by
  have : ∀ r : List α, P r.reverse := by
    intro r
    induction r with
    | nil => exact h0
    | cons a r ih => rw [List.reverse_cons]; exact hs _ _ ih
  have := this l.reverse
  rwa [List.reverse_reverse] at this
theorem totF_snoc (l : List Fr) (a : Fr) : totF (l ++ [a]) = addF (totF l) a := by unfold totF; rw [List.foldl_append]; rfl
theorem whole_snoc (l : List Fr) (a : Fr) : whole (l ++ [a]) = whole l * a.2 := by unfold whole; rw [List.foldl_append]; rfl
theorem sumN_snoc (l : List Fr) (a : Fr) (W : Int) : sumN (l ++ [a]) W = sumN l W + a.1 * (W / a.2) := by
  unfold sumN; rw [List.map_append, List.sum_append]; simp
theorem whole_pos (l : List Fr) : (∀ f ∈ l, LowF f) → 0 < whole l := by
  refine rev_ind (P := fun l => (∀ f ∈ l, LowF f) → 0 < whole l) (fun _ => by decide) (fun l a ih h => ?_) l
  rw [whole_snoc]
  exact Int.mul_pos (ih fun f hf => h f (List.mem_append_left _ hf)) (h a (List.mem_append_right _ List.mem_cons_self)).pos
theorem whole_dvd (l : List Fr) : ∀ f ∈ l, f.2 ∣ whole l := by
  refine rev_ind (P := fun l => ∀ f ∈ l, f.2 ∣ whole l) (fun f hf => by cases hf) (fun l a ih f hf => ?_) l
  rw [whole_snoc]
  rcases List.mem_append.mp hf with h | h
  · exact Int.dvd_mul_of_dvd_left (ih f h)
  · rw [List.mem_singleton] at h; subst h; exact Int.dvd_mul_left _ _
theorem sumN_mul (l : List Fr) {W e : Int} (h : ∀ f ∈ l, f.2 ∣ W) : sumN l (W * e) = sumN l W * e := by
  unfold sumN
  induction l with
  | nil => simp
  | cons f l ih =>
    have ih := ih fun g hg => h g (List.mem_cons_of_mem _ hg)
    simp only [List.map_cons, List.sum_cons]
    rw [ih, Int.add_mul]
    congr 1
    have hd := h f List.mem_cons_self
    rw [Int.mul_comm W e, Int.mul_ediv_assoc _ hd, Int.mul_comm e, Int.mul_assoc]
theorem totF_low (l : List Fr) : (∀ f ∈ l, LowF f) → LowF (totF l) := by
  refine rev_ind (P := fun l => (∀ f ∈ l, LowF f) → LowF (totF l)) (fun _ => ⟨by decide, by decide⟩) (fun l a ih h => ?_) l
  rw [totF_snoc]
  have h1 := ih fun f hf => h f (List.mem_append_left _ hf)
  have h2 := h a (List.mem_append_right _ List.mem_cons_self)
  exact lw_low (Int.mul_pos h1.pos h2.pos)
theorem totF_cross (l : List Fr) : (∀ f ∈ l, LowF f) → (totF l).1 * whole l = sumN l (whole l) * (totF l).2 := by
  refine rev_ind (P := fun l => (∀ f ∈ l, LowF f) → (totF l).1 * whole l = sumN l (whole l) * (totF l).2) (fun _ => by decide) (fun l a ih h => ?_) l
  have hl := fun f hf => h f (List.mem_append_left _ hf)
  have ha := h a (List.mem_append_right _ List.mem_cons_self)
  have ih := ih hl
  have l1 := totF_low l hl
  have wp := whole_pos l hl
  have ap := ha.pos
  rw [totF_snoc, whole_snoc, sumN_snoc, sumN_mul l (whole_dvd l), Int.mul_ediv_cancel _ (by omega)]
  have c := lw_cross (n := (totF l).1 * a.2 + a.1 * (totF l).2) (d := (totF l).2 * a.2)
  have c : (addF (totF l) a).1 * ((totF l).2 * a.2) = ((totF l).1 * a.2 + a.1 * (totF l).2) * (addF (totF l) a).2 := c
  have dp := l1.pos
  generalize (addF (totF l) a).1 = N at *
  generalize (addF (totF l) a).2 = M at *
  generalize totF l = t at *
  generalize whole l = W at *
  generalize sumN l W = S at *
  obtain ⟨n, d⟩ := t
  obtain ⟨p, e⟩ := a
  dsimp only at *
  apply Int.eq_of_mul_eq_mul_right (show d ≠ 0 by omega)
  calc N * (W * e) * d = (N * (d * e)) * W := by simp only [Int.mul_assoc, Int.mul_left_comm, Int.mul_comm]
    _ = ((n * e + p * d) * M) * W := by rw [c]
    _ = (n * W) * (e * M) + p * W * M * d := by
      rw [Int.add_mul, Int.add_mul]; congr 1 <;> simp only [Int.mul_assoc, Int.mul_left_comm, Int.mul_comm]
    _ = (S * d) * (e * M) + p * W * M * d := by rw [ih]
    _ = (S * e + p * W) * M * d := by
      rw [Int.add_mul, Int.add_mul]; congr 1; simp only [Int.mul_assoc, Int.mul_left_comm, Int.mul_comm]
theorem totF_eq (l : List Fr) (h : ∀ f ∈ l, LowF f) : lw (sumN l (whole l)) (whole l) = totF l := low_lw (totF_low l h) (whole_pos l h) (totF_cross l h)
/-! ### sizes -/
theorem whole_le (l : List Fr) {k : Nat} : (∀ f ∈ l, LowF f ∧ f.2 ≤ 2 ^ k) → whole l ≤ 2 ^ (k * l.length) := by
  refine rev_ind (P := fun l => (∀ f ∈ l, LowF f ∧ f.2 ≤ 2 ^ k) → whole l ≤ 2 ^ (k * l.length)) (fun _ => by simp [whole]) (fun l a ih h => ?_) l
  have ih := ih fun f hf => h f (List.mem_append_left _ hf)
  have ha := h a (List.mem_append_right _ List.mem_cons_self)
  rw [whole_snoc, List.length_append, List.length_singleton, Nat.mul_add, Int.pow_add, Nat.mul_one]
  have wp := whole_pos l fun f hf => (h f (List.mem_append_left _ hf)).1
  exact Int.mul_le_mul ih ha.2 (Int.le_of_lt ha.1.pos) (by exact Int.pow_nonneg (by decide))
theorem lw_le {n d : Int} (h : 0 < d) : (lw n d).2 ≤ d ∧ (lw n d).1.natAbs ≤ n.natAbs := by
  obtain ⟨e1, e2⟩ := lw_eq (n := n) (d := d)
  have g := gcd_pos (n := n) h
  have p := (lw_low (n := n) h).pos
  generalize (lw n d).1 = a at *
  generalize (lw n d).2 = b at *
  generalize (Int.gcd n d : Int) = G at *
  refine ⟨?_, ?_⟩
  · rw [← e2]; have := Int.mul_le_mul_of_nonneg_left (show (1 : Int) ≤ G by omega) (Int.le_of_lt p); simpa using this
  · rw [← e1, Int.natAbs_mul]
    exact Nat.le_mul_of_pos_right _ (by omega)
theorem ediv_le_self {W d : Int} (hW : 0 < W) (hd : 0 < d) : 0 ≤ W / d ∧ W / d ≤ W :=
  ⟨Int.ediv_nonneg (Int.le_of_lt hW) (Int.le_of_lt hd), Int.ediv_le_self _ (Int.le_of_lt hW)⟩
theorem sumN_le {W : Int} (hW : 0 < W) {k : Nat} : ∀ (l : List Fr), (∀ f ∈ l, LowF f ∧ f.1.natAbs ≤ 2 ^ k) → (sumN l W).natAbs ≤ l.length * (2 ^ k * W.natAbs)
  | [], _ => by simp [sumN]
  | f :: l, h => by
    have ih := sumN_le hW l fun g hg => h g (List.mem_cons_of_mem _ hg)
    have hf := h f List.mem_cons_self
    have e : sumN (f :: l) W = f.1 * (W / f.2) + sumN l W := by simp [sumN]
    rw [e, List.length_cons, Nat.add_mul, Nat.one_mul, Nat.add_comm]
    have q := ediv_le_self hW hf.1.pos
    refine Nat.le_trans (Int.natAbs_add_le _ _) (Nat.add_le_add ?_ ih)
    rw [Int.natAbs_mul]
    exact Nat.mul_le_mul hf.2 (by omega)
/-! ### the least -/
def ltF (x y : Fr) : Prop := x.1 * y.2 < y.1 * x.2
theorem lt_le_trans {x y z : Fr} (hx : 0 < x.2) (hy : 0 < y.2) (hz : 0 < z.2) (h1 : ltF x y) (h2 : ¬ ltF z y) : ltF x z := by
  unfold ltF at *
  have h2 : y.1 * z.2 ≤ z.1 * y.2 := by omega
  have a : (x.1 * y.2) * z.2 < (y.1 * x.2) * z.2 := Int.mul_lt_mul_of_pos_right h1 hz
  have b : (y.1 * z.2) * x.2 ≤ (z.1 * y.2) * x.2 := Int.mul_le_mul_of_nonneg_right h2 (Int.le_of_lt hx)
  have c : (x.1 * z.2) * y.2 < (z.1 * x.2) * y.2 := by
    calc (x.1 * z.2) * y.2 = (x.1 * y.2) * z.2 := by simp only [Int.mul_assoc, Int.mul_left_comm, Int.mul_comm]
      _ < (y.1 * x.2) * z.2 := a
      _ = (y.1 * z.2) * x.2 := by simp only [Int.mul_assoc, Int.mul_left_comm, Int.mul_comm]
      _ ≤ (z.1 * y.2) * x.2 := b
      _ = (z.1 * x.2) * y.2 := by simp only [Int.mul_assoc, Int.mul_left_comm, Int.mul_comm]
  exact Int.lt_of_mul_lt_mul_right c (Int.le_of_lt hy)
theorem ltF_asymm {x y : Fr} (h : ltF x y) : ¬ ltF y x := by unfold ltF at *; omega
theorem ltF_irrefl {x : Fr} : ¬ ltF x x := by unfold ltF; omega
/-- p is the first place of the least among the first n -/
structure LeastAt (fs : List Fr) (n p : Nat) (y : Fr) : Prop where
  at_ : fs[p]? = some y
  lt : p < n
  no : ∀ (j : Nat) (x : Fr), j < n → fs[j]? = some x → ¬ ltF x y
  first : ∀ (j : Nat) (x : Fr), j < p → fs[j]? = some x → ltF y x
theorem LeastAt.one {fs : List Fr} {y : Fr} (h : fs[0]? = some y) : LeastAt fs 1 0 y :=
  ⟨h, by omega, fun j x hj e => by have : j = 0 := by omega
                                   subst this; rw [h] at e; cases e; exact ltF_irrefl, fun j x hj _ => by omega⟩
theorem LeastAt.next {fs : List Fr} {n p : Nat} {y z : Fr} (L : LeastAt fs n p y) (hp : ∀ f ∈ fs, LowF f) (hz : fs[n]? = some z) (h : ltF z y) : LeastAt fs (n + 1) n z := by
  have pos : ∀ {j : Nat} {x : Fr}, fs[j]? = some x → 0 < x.2 := fun e => (hp _ (List.mem_of_getElem? e)).pos
  have all : ∀ (j : Nat) (x : Fr), j < n → fs[j]? = some x → ltF z x := fun j x hj e => lt_le_trans (pos hz) (pos L.at_) (pos e) h (L.no j x hj e)
  refine ⟨hz, by omega, fun j x hj e => ?_, all⟩
  by_cases q : j = n
  · subst q; rw [hz] at e; cases e; exact ltF_irrefl
  · exact ltF_asymm (all j x (by omega) e)
theorem LeastAt.stay {fs : List Fr} {n p : Nat} {y z : Fr} (L : LeastAt fs n p y) (hz : fs[n]? = some z) (h : ¬ ltF z y) : LeastAt fs (n + 1) p y :=
  ⟨L.at_, by have := L.lt; omega, fun j x hj e => by
    by_cases q : j = n
    · subst q; rw [hz] at e; cases e; exact h
    · exact L.no j x (by omega) e, L.first⟩
end Mf

set_option Elab.async false
set_option linter.all false
set_option maxRecDepth 100000
namespace Mt
open PySem PySem.NumText
/-! ### figures, and what they write -/
abbrev dig (c : Nat) : Bool := decide (48 ≤ c) && decide (c ≤ 57)
def figs (t : Str) : Bool := t.cps.toList.all dig
theorem figs_all {t : Str} (h : figs t = true) : AllDigits t.cps.toList := fun c hc => by
  have := List.all_eq_true.mp h c hc
  simpa [dig] using this
theorem in_figs (c : Nat) : (!(Builtin.Str.occurrences (Str.ofString "0123456789") ⟨#[c]⟩ 0 (Str.ofString "0123456789").length 1).isEmpty) = dig c := by
  rw [StrLaws.found_one]
  have e : (Str.ofString "0123456789").cps.toList = [48, 49, 50, 51, 52, 53, 54, 55, 56, 57] := by decide +kernel
  rw [e]
  unfold dig
  rw [← Bool.decide_and]
  refine decide_eq_decide.mpr ?_
  simp only [List.mem_cons, List.not_mem_nil, or_false]
  omega
theorem str_ext {a b : Str} (h : a.cps.toList = b.cps.toList) : a = b := by
  cases a; cases b
  congr 1
  exact Array.toList_inj.mp h
theorem len_toList (t : Str) : t.cps.toList.length = t.length := by simp [Str.length]
theorem starts_one (t : Str) (c : Nat) : Txt.startswith t ⟨#[c]⟩ = decide (t.cps.toList.head? = some c) := by
  unfold Txt.startswith
  cases h : t.cps.toList with
  | nil =>
    have e : t.length = 0 := by rw [← len_toList, h]; rfl
    have e1 : (⟨#[c]⟩ : Str).length = 1 := rfl
    rw [e, e1]
    simp
  | cons x r =>
    have e : t = ⟨(x :: r).toArray⟩ := str_ext (by rw [h])
    rw [e]
    have e1 : (⟨#[c]⟩ : Str).length = 1 := rfl
    have e2 : (⟨(x :: r).toArray⟩ : Str).length = r.length + 1 := rfl
    unfold Builtin.Str.subAt
    rw [e1, e2]
    have e3 : ((x :: r).toArray.extract 0 (0 + 1)) = #[x] := by simp
    rw [e3]
    simp [BEq.beq, List.isEqv]
theorem slice_from {t : Str} {i : Int} (h0 : 0 ≤ i) (h : i ≤ t.length) : (Txt.slice t (some i) none).cps.toList = t.cps.toList.drop i.toNat := by
  have e : Txt.slice t (some i) none = StrLaws.sliceText t (some i) none := rfl
  rw [e, StrLaws.sliceText_from ⟨h0, by rw [len_toList]; exact h⟩]
  show List.take _ (List.drop _ _) = _
  refine List.take_of_length_le ?_
  rw [List.length_drop, len_toList]
  omega
theorem slice_to {t : Str} {j : Int} (h0 : 0 ≤ j) (h : j ≤ t.length) : (Txt.slice t none (some j)).cps.toList = t.cps.toList.take j.toNat := by
  have e : Txt.slice t none (some j) = StrLaws.sliceText t none (some j) := rfl
  rw [e, StrLaws.sliceText_to ⟨h0, by rw [len_toList]; exact h⟩]
  show List.take _ (List.drop 0 _) = _
  rw [List.drop_zero, Int.sub_zero]
/-- what the figures come to -/
def val (t : Str) : Nat := digitsVal t.cps.toList
def zero : Str := Str.ofString "0"
/-- a whole number from nought on, written -/
def wrB (t : Str) : Bool := !t.cps.toList.isEmpty && figs t && !(decide (t.cps.toList.head? = some 48) && !decide (t = zero))
def wr (t : Str) : Option Nat := if wrB t = true then some (val t) else none
def neg (t : Str) : Bool := decide (t.cps.toList.head? = some 45)
def fg (t : Str) : Str := if neg t = true then ⟨(t.cps.toList.drop 1).toArray⟩ else t
def rdB (t : Str) : Bool := decide (1 ≤ (fg t).length) && decide ((fg t).length ≤ 4000) && figs (fg t) && !(decide ((fg t).cps.toList.head? = some 48) && !decide (t = zero))
def rdV (t : Str) : Int := if neg t = true then -((val (fg t) : Nat) : Int) else ((val (fg t) : Nat) : Int)
def rd (t : Str) : Option Int := if rdB t = true then some (rdV t) else none
theorem fg_len (t : Str) : (fg t).length ≤ t.length := by
  unfold fg
  split
  · rw [← len_toList, ← len_toList]
    show (List.drop 1 _).length ≤ _
    rw [List.length_drop]; omega
  · exact Nat.le_refl _
theorem zero_cps : zero.cps.toList = [48] := by decide +kernel
theorem rd_plain {t : Str} (h : neg t = false) (hl : t.length ≤ 4000) : rd t = (wr t).map Int.ofNat := by
  have e : fg t = t := by unfold fg; rw [h]; rfl
  have e2 : decide (1 ≤ t.length) = !t.cps.toList.isEmpty := by
    cases q : t.cps.toList with
    | nil =>
      have : t.length = 0 := by rw [← len_toList, q]; rfl
      rw [this]; rfl
    | cons c r =>
      have : t.length = r.length + 1 := by rw [← len_toList, q]; rfl
      rw [this]; simp
  have hb : rdB t = wrB t := by
    unfold rdB wrB
    rw [e, decide_eq_true hl, Bool.and_true, e2]
  unfold rd wr rdV
  rw [hb, e, h]
  cases wrB t <;> rfl
theorem rd_neg {t : Str} (h : neg t = true) (hl : t.length ≤ 4000) : rd t = match wr (fg t) with | some 0 => none | some n => some (-(n : Int)) | none => none := by
  have hh : t.cps.toList.head? = some 45 := of_decide_eq_true h
  have hz : t ≠ zero := fun e => by rw [e, zero_cps] at hh; cases hh
  have hl' := fg_len t
  have e2 : decide (1 ≤ (fg t).length) = !(fg t).cps.toList.isEmpty := by
    cases q : (fg t).cps.toList with
    | nil =>
      have : (fg t).length = 0 := by rw [← len_toList, q]; rfl
      rw [this]; rfl
    | cons c r =>
      have : (fg t).length = r.length + 1 := by rw [← len_toList, q]; rfl
      rw [this]; simp
  have hb : rdB t = (!(fg t).cps.toList.isEmpty && figs (fg t) && !decide ((fg t).cps.toList.head? = some 48)) := by
    unfold rdB
    rw [decide_eq_false hz, decide_eq_true (show (fg t).length ≤ 4000 by omega), e2]
    simp
  unfold rd rdV
  rw [hb, h, if_pos rfl]
  unfold wr wrB
  by_cases z : fg t = zero
  · rw [z]
    have e1 : (zero.cps.toList.head? = some 48) := by rw [zero_cps]; rfl
    have e3 : val zero = 0 := by decide +kernel
    have e4 : figs zero = true := by decide +kernel
    have e5 : zero.cps.toList.isEmpty = false := by rw [zero_cps]; rfl
    rw [decide_eq_true e1, e3, e4, e5, decide_eq_true rfl]
    rfl
  · rw [decide_eq_false z]
    simp only [Bool.not_false, Bool.and_true]
    by_cases c : (!(fg t).cps.toList.isEmpty && figs (fg t) && !decide ((fg t).cps.toList.head? = some 48)) = true
    · rw [if_pos c, if_pos c]
      have hp : 0 < val (fg t) := by
        simp only [Bool.and_eq_true, Bool.not_eq_true', decide_eq_false_iff_not] at c
        obtain ⟨⟨c1, c2⟩, c3⟩ := c
        unfold val
        have hd := figs_all c2
        cases q : (fg t).cps.toList with
        | nil => rw [q] at c1; cases c1
        | cons x r =>
          rw [q] at c3 hd
          have := hd.head
          exact digitsVal_pos (by
            have : x ≠ 48 := fun z => c3 (by rw [z]; rfl)
            omega)
      cases v : val (fg t) with
      | zero => omega
      | succ n => rfl
    · rw [if_neg c, if_neg c]
end Mt

set_option Elab.async false
set_option linter.all false
set_option maxRecDepth 100000
namespace Mt
open PySem PySem.NumText
theorem app_cps (a b : Str) : (a ++ b).cps.toList = a.cps.toList ++ b.cps.toList := by
  show (a.cps ++ b.cps).toList = _
  simp
/-! ### numbers as texts -/
def dg (m : Nat) : List Nat := (Nat.toDigits 10 m).map Char.toNat
def tx (n : Int) : Str := Str.ofString (toString n)
theorem tx_nat (m : Nat) : (tx (m : Int)).cps.toList = dg m := by
  unfold tx dg
  exact W.KIN.signs_num m
theorem tx_neg (m : Nat) : (tx (-((m + 1 : Nat) : Int))).cps.toList = 45 :: dg (m + 1) := by
  unfold tx dg
  have e : (-((m + 1 : Nat) : Int)) = Int.negSucc m := rfl
  rw [e, PyProof.Rows.signs_ofString]
  show ("-" ++ Nat.repr (m + 1)).toList.map Char.toNat = _
  rw [String.toList_append, List.map_append, Nat.toList_repr]
  rfl
theorem dg_all (m : Nat) : AllDigits (dg m) := fun c hc => by
  obtain ⟨ch, hch, e⟩ := List.mem_map.mp hc
  have r := PyProof.Rows.digit_range (Nat.isDigit_of_mem_toDigits (by decide) (by decide) hch)
  rw [← e]
  exact r
theorem dg_val (m : Nat) : digitsVal (dg m) = m := W.KIN.val_back m
theorem dg_ne (m : Nat) : dg m ≠ [] := by
  unfold dg
  intro h
  have := PyProof.Rows.tDigits_len_ge 10 m
  rw [List.map_eq_nil_iff] at h
  rw [h] at this
  simp at this
theorem ofNat_back {l : List Nat} (h : AllDigits l) : (l.map Char.ofNat).map Char.toNat = l := by
  induction l with
  | nil => rfl
  | cons c r ih =>
    have hc := h.head
    have : (Char.ofNat c).toNat = c := by
      have : ∀ d : Nat, d ≤ 9 → (Char.ofNat (48 + d)).toNat = 48 + d := by decide
      have := this (c - 48) (by omega)
      rwa [show 48 + (c - 48) = c by omega] at this
    rw [List.map_cons, List.map_cons, this, ih h.tail]
/-- figures without a nought ahead are those of their number -/
theorem dg_of {l : List Nat} (h : AllDigits l) (hn : l ≠ []) (hh : l.length = 1 ∨ ∃ c r, l = c :: r ∧ 49 ≤ c) : dg (digitsVal l) = l := by
  unfold dg
  have hl : l.length = (l.length - 1) + 1 := by
    cases l with
    | nil => exact absurd rfl hn
    | cons c r => simp
  rw [toDigits_digitsVal (l.length - 1) l hl h (by rcases hh with e | e; exact .inl (by omega); exact .inr e), ofNat_back h]
theorem dg_zero : dg 0 = [48] := by decide
theorem dg_head {m : Nat} (h : 0 < m) : ∃ c r, dg m = c :: r ∧ 49 ≤ c := by
  have ha := dg_all m
  have hv := dg_val m
  have t := toDigits_all (dg m) ha
  rw [hv] at t
  cases q : dg m with
  | nil => exact absurd q (dg_ne m)
  | cons c r =>
    rw [q] at ha t hv
    refine ⟨c, r, rfl, ?_⟩
    have hc := ha.head
    by_cases z : c = 48
    · exfalso
      subst z
      rw [List.dropWhile_cons] at t
      simp only [beq_self_eq_true, if_true] at t
      have hlen : (Nat.toDigits 10 m).length = r.length + 1 := by
        have := congrArg List.length q
        unfold dg at this
        rw [List.length_map] at this
        rw [this]; rfl
      rw [t] at hlen
      cases q2 : r.dropWhile (· == 48) with
      | nil =>
        rw [q2] at hlen
        simp at hlen
        have : r = [] := by
          cases r with
          | nil => rfl
          | cons _ _ => simp at hlen
        subst this
        have : digitsVal [48] = 0 := rfl
        omega
      | cons x y =>
        rw [q2] at hlen
        have h1 : (r.dropWhile (· == 48)).length ≤ r.length := len_dropWhile _ _
        rw [q2] at h1
        simp at hlen h1
        omega
    · omega
theorem dv_from (b : List Nat) : ∀ a : Nat, b.foldl (fun acc c => acc * 10 + (c - 48)) a = a * 10 ^ b.length + digitsVal b := by
  induction b with
  | nil => intro a; show a = a * 1 + 0; omega
  | cons c r ih =>
    intro a
    show r.foldl (fun acc c => acc * 10 + (c - 48)) (a * 10 + (c - 48)) = _
    have e : digitsVal (c :: r) = r.foldl (fun acc c => acc * 10 + (c - 48)) (0 * 10 + (c - 48)) := rfl
    rw [e, ih, ih, List.length_cons, Nat.pow_succ, Nat.zero_mul, Nat.zero_add, Nat.add_mul, Nat.mul_assoc, Nat.mul_comm 10 (10 ^ r.length)]
    omega
theorem dv_append (a b : List Nat) : digitsVal (a ++ b) = digitsVal a * 10 ^ b.length + digitsVal b := by
  have e : digitsVal (a ++ b) = b.foldl (fun acc c => acc * 10 + (c - 48)) (digitsVal a) := by unfold digitsVal; rw [List.foldl_append]
  rw [e, dv_from]
theorem dv_zeros : ∀ (k : Nat) (l : List Nat), digitsVal (List.replicate k 48 ++ l) = digitsVal l
  | 0, l => rfl
  | k + 1, l => by rw [List.replicate_succ]; show digitsVal (48 :: (List.replicate k 48 ++ l)) = _; rw [digitsVal_zero]; exact dv_zeros k l
/-! ### cut at / -/
def sl : Str := ⟨#[47]⟩
theorem cut_inj : ∀ {p a s b : List Nat}, 47 ∉ p → 47 ∉ a → p ++ 47 :: s = a ++ 47 :: b → p = a ∧ s = b
  | [], [], _, _, _, _, e => by injection e with _ e; exact ⟨rfl, e⟩
  | [], x :: a, _, _, _, ha, e => by injection e with e _; exact absurd (by rw [e]; exact List.mem_cons_self) ha
  | y :: p, [], _, _, hp, _, e => by injection e with e _; exact absurd (by rw [← e]; exact List.mem_cons_self) hp
  | y :: p, x :: a, s, b, hp, ha, e => by
    injection e with e1 e2
    obtain ⟨h1, h2⟩ := cut_inj (fun z => hp (List.mem_cons_of_mem _ z)) (fun z => ha (List.mem_cons_of_mem _ z)) e2
    exact ⟨by rw [e1, h1], h2⟩
theorem join2 (p q : Str) (r : List Str) : (Str.join sl (p :: q :: r)).cps.toList = p.cps.toList ++ 47 :: (Str.join sl (q :: r)).cps.toList := by
  show (p ++ sl ++ Str.join sl (q :: r)).cps.toList = _
  rw [app_cps, app_cps]
  show p.cps.toList ++ [47] ++ _ = _
  simp
theorem split_ne (x : Str) : Txt.split x sl ≠ [] := fun h => by
  have := PyProof.Rows.split_pos x sl
  rw [h] at this
  exact absurd this (by decide)
theorem split_one {x : Str} (h : 47 ∉ x.cps.toList) : Txt.split x sl = [x] := by
  have hj := StrLaws.join_split x sl
  cases q : Txt.split x sl with
  | nil => exact absurd q (split_ne x)
  | cons p r =>
    rw [q] at hj
    cases r with
    | nil => rw [show p = x from hj]
    | cons q' r' =>
      exfalso
      apply h
      rw [← hj, join2]
      simp
theorem split_two {a b : Str} (ha : 47 ∉ a.cps.toList) (hb : 47 ∉ b.cps.toList) : Txt.split (a ++ sl ++ b) sl = [a, b] := by
  have hj := StrLaws.join_split (a ++ sl ++ b) sl
  have hf := StrLaws.split_free (a ++ sl ++ b) 47
  have ex : (a ++ sl ++ b).cps.toList = a.cps.toList ++ 47 :: b.cps.toList := by
    rw [app_cps, app_cps]
    show a.cps.toList ++ [47] ++ _ = _
    simp
  have hf : ∀ p ∈ Txt.split (a ++ sl ++ b) sl, 47 ∉ p.cps.toList := hf
  cases q : Txt.split (a ++ sl ++ b) sl with
  | nil => exact absurd q (split_ne _)
  | cons p r =>
    rw [q] at hj hf
    have hp := hf p List.mem_cons_self
    cases r with
    | nil =>
      exfalso
      apply hp
      have : p = a ++ sl ++ b := hj
      rw [this, ex]
      simp
    | cons q' r' =>
      have e := congrArg (fun t : Str => t.cps.toList) hj
      rw [join2, ex] at e
      obtain ⟨e1, e2⟩ := cut_inj hp ha e
      cases r' with
      | nil => rw [str_ext e1, str_ext (show q'.cps.toList = b.cps.toList from e2)]
      | cons q2 r2 =>
        exfalso
        apply hb
        rw [← e2, join2]
        simp
theorem le_sum {p : Str} : ∀ {l : List Str}, p ∈ l → p.length ≤ (l.map (·.length)).sum
  | [], h => by cases h
  | q :: r, h => by
    rw [List.map_cons, List.sum_cons]
    rcases List.mem_cons.mp h with rfl | h
    · omega
    · have := le_sum h; omega
theorem part_len {x p : Str} (h : p ∈ Txt.split x sl) : p.length ≤ x.length := by
  have := PyProof.Rows.split_weight x sl (by decide)
  have h1 : p.length ≤ ((Txt.split x sl).map (·.length)).sum := le_sum h
  have h2 := PyProof.Rows.split_pos x sl
  omega
/-! ### what is shown is read -/
theorem tx_free (n : Int) : 47 ∉ (tx n).cps.toList := by
  intro h
  rcases Int.lt_or_le n 0 with hn | hn
  · obtain ⟨m, rfl⟩ : ∃ m : Nat, n = -((m + 1 : Nat) : Int) := ⟨(-n - 1).toNat, by omega⟩
    rw [tx_neg] at h
    rcases List.mem_cons.mp h with h | h
    · omega
    · have := dg_all _ 47 h; omega
  · obtain ⟨m, rfl⟩ := Int.eq_ofNat_of_zero_le hn
    rw [tx_nat] at h
    have := dg_all _ 47 h
    omega
theorem figs_of {t : Str} (h : AllDigits t.cps.toList) : figs t = true := by
  unfold figs
  refine List.all_eq_true.mpr fun c hc => ?_
  have := h c hc
  simp [dig, this.1, this.2]
theorem wrB_dg {t : Str} {m : Nat} (e : t.cps.toList = dg m) : wrB t = true ∧ val t = m := by
  refine ⟨?_, by unfold val; rw [e, dg_val]⟩
  unfold wrB
  rw [figs_of (by rw [e]; exact dg_all m)]
  have h1 : t.cps.toList.isEmpty = false := by
    rw [e]
    cases q : dg m with
    | nil => exact absurd q (dg_ne m)
    | cons _ _ => rfl
  rw [h1]
  by_cases hm : m = 0
  · subst hm
    have : t = zero := str_ext (by rw [e, dg_zero, zero_cps])
    rw [decide_eq_true this]
    simp
  · obtain ⟨c, r, e2, hc⟩ := dg_head (Nat.pos_of_ne_zero hm)
    have : ¬ t.cps.toList.head? = some 48 := by
      rw [e, e2]
      intro z
      injection z with z
      omega
    rw [decide_eq_false this]
    rfl
theorem rd_tx {n : Int} (h : (tx n).length ≤ 4000) : rd (tx n) = some n := by
  rcases Int.lt_or_le n 0 with hn | hn
  · obtain ⟨m, rfl⟩ : ∃ m : Nat, n = -((m + 1 : Nat) : Int) := ⟨(-n - 1).toNat, by omega⟩
    have hneg : neg (tx (-((m + 1 : Nat) : Int))) = true := by
      unfold neg
      rw [tx_neg]; rfl
    have e : (fg (tx (-((m + 1 : Nat) : Int)))).cps.toList = dg (m + 1) := by
      unfold fg
      rw [if_pos hneg, tx_neg]
      rfl
    rw [rd_neg hneg h]
    obtain ⟨h1, h2⟩ := wrB_dg e
    unfold wr
    rw [if_pos h1, h2]
    rfl
  · obtain ⟨m, rfl⟩ := Int.eq_ofNat_of_zero_le hn
    have hneg : neg (tx (m : Int)) = false := by
      unfold neg
      rw [tx_nat]
      refine decide_eq_false fun z => ?_
      cases q : dg m with
      | nil => exact absurd q (dg_ne m)
      | cons c r =>
        rw [q] at z
        injection z with z
        have := dg_all m c (by rw [q]; exact List.mem_cons_self)
        omega
    rw [rd_plain hneg h]
    obtain ⟨h1, h2⟩ := wrB_dg (tx_nat m)
    unfold wr
    rw [if_pos h1, h2]
    rfl
end Mt

set_option Elab.async false
set_option linter.all false
set_option maxRecDepth 100000
namespace Kw
open PySem L2 Mf
def top (i : Nat) : Stmt := PySem.Challenge.pw_earlystop_k04_fractions_written.main.body.getD i (.Pass ⟨0, 0, 0, 0⟩)
abbrev s__law_feed : Stmt := (top 17)
theorem sc__law_feed : FnScope ["_law_script"] ["_law_script"] (defScope s__law_feed) := ⟨rfl, rfl, rfl, by decide +kernel, rfl, by decide +kernel, by decide +kernel⟩
abbrev s__law_draw : Stmt := (top 18)
theorem sc__law_draw : FnScope ["_law_feed_here", "_law_many", "_law_found", "_law_cell", "_law_stirred"] ["_law_feed_here", "_law_many"] (defScope s__law_draw) := ⟨rfl, rfl, rfl, by decide +kernel, rfl, by decide +kernel, by decide +kernel⟩
structure Cl where
  EarlyError : Addr
  NoFraction : Addr
  tok_FIGURES : Tok
  tok_MOST_FIGURES : Tok
  tok_PIECE_FIGURES : Tok
structure Txt (K : PySem.W.Frag) (mg : Str → Option Value) (c : Cl) : Prop where
  b_list : mg "list" = none
  b_len : mg "len" = none
  b_abs : mg "abs" = none
  b_isinstance : mg "isinstance" = none
  b_repr : mg "repr" = none
  b_range : mg "range" = none
  b_int : mg "int" = none
  b_bool : mg "bool" = none
  b_tuple : mg "tuple" = none
  b_str : mg "str" = none
  b_reversed : mg "reversed" = none
  b_all : mg "all" = none
  g_EarlyError : mg "EarlyError" = some (.ref c.EarlyError)
  g_NoFraction : mg "NoFraction" = some (.ref c.NoFraction)
  g_FIGURES : mg "FIGURES" = some (.str (Str.ofString "0123456789") c.tok_FIGURES)
  g_MOST_FIGURES : mg "MOST_FIGURES" = some (.int 4000 c.tok_MOST_FIGURES)
  g_PIECE_FIGURES : mg "PIECE_FIGURES" = some (.int 64 c.tok_PIECE_FIGURES)
  x_NoFraction : PySem.W.excIn K c.NoFraction mroVE "ValueError.__new__" = true
  e_NoFraction : ExcCls K c.NoFraction
  c_NoFraction : Catch K c.NoFraction
  s1 : PySem.W.subIn K (.ref c.NoFraction) (.ref c.NoFraction) = some true
  k1 : PySem.W.kitOne K (.ref c.NoFraction) (.ref c.EarlyError) = some true
  n1 : PySem.W.nsOkIn K cStatics = true
  n2 : PySem.W.nsIn K cStatics "sys.int_max_str_digits" = some none
theorem Txt.nd {K : PySem.W.Frag} {mg : Str → Option Value} {c : Cl} (T : Txt K mg c) : NoDig K := ⟨T.n1, T.n2⟩
/-! ### the feed -/
structure FeedAt (H : Hp) (p L : Addr) : Prop where
  ex : ∃ (ns : List Int) (i r k : Int), H p = some (.lst [.ref L, .int i, .int r, .int k]) ∧ H L = some (.lst (ns.map V.int)) ∧ 0 ≤ i ∧ 0 ≤ r ∧ 0 ≤ k ∧ k ≤ ns.length ∧ ns.length ≤ 63 ∧ L ≠ p
theorem FeedAt.there {H : Hp} {p L : Addr} (F : FeedAt H p L) : ∃ o, H p = some o := by obtain ⟨ns, i, r, k, h, _⟩ := F.ex; exact ⟨_, h⟩
theorem FeedAt.lst {H : Hp} {p L : Addr} (F : FeedAt H p L) : ∃ xs, H p = some (.lst xs) := by obtain ⟨ns, i, r, k, h, _⟩ := F.ex; exact ⟨_, h⟩
theorem FeedAt.ne {H : Hp} {p L q : Addr} (F : FeedAt H p L) (hq : H q = none) : q ≠ p := fun e => by
  subst e; obtain ⟨o, h⟩ := F.there; rw [h] at hq; cases hq
theorem FeedAt.neL {H : Hp} {p L q : Addr} (F : FeedAt H p L) (hq : H q = none) : q ≠ L := fun e => by
  subst e; obtain ⟨ns, i, r, k, h, h2, _⟩ := F.ex; rw [h2] at hq; cases hq
@[irreducible] def sp_feed (K : PySem.W.Frag) : Sp := fun vs H Q _ => ∃ (a : Addr) (ns : List Int), vs = [.ref a] ∧ SqL K H a (ns.map V.int) ∧ ns.length ≤ 63 ∧ ∀ p L H', FeedAt H' p L → Same H H' → H p = none → H L = none → Q (.ref p) H'
@[irreducible] def sp_draw : Sp := fun vs H Q _ => ∃ (p L : Addr) (m : Int), vs = [.ref p, .int m] ∧ FeedAt H p L ∧ 0 < m ∧ bits m ≤ 9000 ∧ ∀ x H', 0 ≤ x → x < m → FeedAt H' p L → SameBut p H H' → Q (.int x) H'
theorem sp_draw_i {H : Hp} {Q : VK} {E : XK} {p L : Addr} {m : Int} (F : FeedAt H p L) (h : 0 < m) (hb : bits m ≤ 9000) (k : ∀ x H', 0 ≤ x → x < m → FeedAt H' p L → SameBut p H H' → Q (.int x) H') : sp_draw [.ref p, .int m] H Q E := by
  unfold sp_draw; exact ⟨p, L, m, rfl, F, h, hb, k⟩
theorem bitsle {i : Int} {n : Nat} (h : i.natAbs < 2 ^ n) : bits i ≤ n := PySem.intBits_le_iff.mpr h
theorem FeedAt.same {H H' : Hp} {p L : Addr} (F : FeedAt H p L) (s : Same H H') : FeedAt H' p L := by
  obtain ⟨ns, i, r, k, h1, h2, h3⟩ := F.ex
  exact ⟨ns, i, r, k, s _ _ h1, s _ _ h2, h3⟩
theorem FeedAt.but {H H' : Hp} {p L D : Addr} (F : FeedAt H p L) (s : SameBut D H H') (n1 : D ≠ p) (n2 : D ≠ L) : FeedAt H' p L := by
  obtain ⟨ns, i, r, k, h1, h2, h3⟩ := F.ex
  exact ⟨ns, i, r, k, s.at (Ne.symm n1) h1, s.at (Ne.symm n2) h2, h3⟩
theorem sp_feed_i {K : PySem.W.Frag} {H : Hp} {Q : VK} {E : XK} {a : Addr} {ns : List Int} (h : SqL K H a (ns.map V.int)) (hl : ns.length ≤ 63) (k : ∀ p L H', FeedAt H' p L → Same H H' → H p = none → H L = none → Q (.ref p) H') : sp_feed K [.ref a] H Q E := by
  unfold sp_feed; exact ⟨a, ns, rfl, h, hl, k⟩
@[irreducible] def sp_law (K : PySem.W.Frag) : Sp := fun vs H Q _ => ∃ (a : Addr) (ns : List Int), vs = [.ref a] ∧ SqL K H a (ns.map V.int) ∧ ns.length ≤ 63 ∧ ∀ H', Q (.bl true) H'
theorem sp_law_i {K : PySem.W.Frag} {H : Hp} {a : Addr} {ns : List Int} (h : SqL K H a (ns.map V.int)) (hl : ns.length ≤ 63) : sp_law K [.ref a] H (fun v _ => v = .bl true) (fun _ _ _ => False) := by
  unfold sp_law; exact ⟨a, ns, rfl, h, hl, fun _ => rfl⟩
section
variable {P : Program} {w : World} {K : PySem.W.Frag} {mg : Str → Option Value} {base : Heap} {c : Cl}
theorem ok__law_feed {f : Addr} {fd : FuncData} (F : Fun K "_law_feed" "_law_feed" s__law_feed f fd) (T : Txt K mg c) : FnOk P w K mg base CX0 1 f fd ["_law_script"] (sp_feed K) := by
  refine F.okw sc__law_feed (fun vs H Q E h => ?_) (fun cdv A outer s H vs Q E hr h => ?_)
  · unfold sp_feed at h
    obtain ⟨a, ns, rfl, _⟩ := h
    rfl
  · unfold sp_feed at h
    obtain ⟨a, ns, rfl, hS, hl, k⟩ := h
    refine ⟨_, (wss_one (ws_ret (we_lst (wa_k (we_cT call_list_of (by rfl) T.b_list (by decide +kernel) (wa_k (we_slice sl_list (we_v 0) wo_none (wo_some we_int)) wa_nil)) (wa_k we_int (wa_k we_int (wa_k we_int wa_nil))))))), ?_⟩
    refine ⟨_, rfl, _, rfl, a, _, rfl, hS, fun q1 h1 => ?_⟩
    refine ⟨q1, _, rfl, .inl (SqL.of upd_same), fun q2 h2 => ?_⟩
    refine nwL (by show 4 ≤ 64; decide) fun q3 H3 h3 e3 s3 => ?_
    have n21 : q2 ≠ q1 := fun e => by subst e; rw [upd_same] at h2; cases h2
    have e1 : cutV (ns.map V.int) none (some 63) = ns.map V.int := by
      unfold cutV
      have : HT.sIx (ns.map V.int).length (ns.map V.int).length (some 63) = (ns.map V.int).length := by
        rw [show ((63 : Int)) = ((63 : Nat) : Int) from rfl, HT.sIx_nat, List.length_map]; omega
      rw [this, HT.sIx_none, List.drop_zero, Nat.sub_zero]
      exact List.take_of_length_le (Nat.le_refl _)
    have s3' := s3
    rw [e1] at s3
    have hq2 := s3 q2 _ upd_same
    refine k q3 q2 H3 ⟨ns, 0, 0, 0, e3, hq2, Int.le_refl _, Int.le_refl _, Int.le_refl _, by omega, hl, fun e => ?_⟩ (((Same.upd h1).trans (Same.upd h2)).trans s3') ?_ ?_
    · subst e; rw [upd_same] at h3; cases h3
    · exact ((Same.upd h1).trans (Same.upd h2)).free h3
    · exact (Same.upd h1).free h2
theorem ok__law_draw {f : Addr} {fd : FuncData} (F : Fun K "_law_draw" "_law_draw" s__law_draw f fd) (T : Txt K mg c) : FnOk P w K mg base CX0 1 f fd ["_law_feed_here", "_law_many"] sp_draw := by
  refine F.okw sc__law_draw (fun vs H Q E h => ?_) (fun cdv A outer s H vs Q E hr h => ?_)
  · unfold sp_draw at h
    obtain ⟨p, L, m, rfl, _⟩ := h
    rfl
  · unfold sp_draw at h
    obtain ⟨p, L, m, rfl, F, hm, hb, k⟩ := h
    obtain ⟨ns, i, r, j, hp, hL, h0, h1, h2, h3, h4, hne⟩ := F.ex
    refine ⟨_, (wss_cons (ws_asg (we_op op_add (we_ix ix_seq (we_v 0) we_int (fun _ _ => rfl)) we_int) (wg_sub (we_v 0) we_int set_list))
      (wss_cons (ws_while PassesOwn.never (wt_w (ww_and (wt_cmp op_eq (we_ix ix_seq (we_v 0) we_int (fun _ _ => rfl)) we_int (nomark _)) (ww_and1 (wt_cmp op_lt (we_ix ix_seq (we_v 0) we_int (fun _ _ => rfl)) (we_cB cl_len (by rfl) T.b_len (by decide +kernel) (wa_k (we_ix ix_seq (we_v 0) we_int (fun _ _ => rfl)) wa_nil)) (nomark _))))) (wss_cons (ws_cut (ws_if (wt_cmp op_ge (we_cB cl_abs (by rfl) T.b_abs (by decide +kernel) (wa_k (we_ix ix_seq (we_ix ix_seq (we_v 0) we_int (fun _ _ => rfl)) (we_ix ix_seq (we_v 0) we_int (fun _ _ => rfl)) (fun _ _ => rfl)) wa_nil)) (we_op op_pow we_int we_int) (nomark _)) (wss_one (ws_asg (we_cB cl_abs (by rfl) T.b_abs (by decide +kernel) (wa_k (we_ix ix_seq (we_ix ix_seq (we_v 0) we_int (fun _ _ => rfl)) (we_ix ix_seq (we_v 0) we_int (fun _ _ => rfl)) (fun _ _ => rfl)) wa_nil)) (wg_sub (we_v 0) we_int set_list))) wss_nil))
      (wss_one (ws_asg (we_op op_add (we_ix ix_seq (we_v 0) we_int (fun _ _ => rfl)) we_int) (wg_sub (we_v 0) we_int set_list)))))
      (wss_cons (ws_if (wt_cmp op_gt (we_ix ix_seq (we_v 0) we_int (fun _ _ => rfl)) we_int (nomark _)) (wss_cons (ws_set (i := 2) sc__law_draw.nd rfl (Or.inl rfl) (we_op op_mod (we_ix ix_seq (we_v 0) we_int (fun _ _ => rfl)) (we_v 1)))
      (wss_cons (ws_asg (we_op op_fdivB (we_ix ix_seq (we_v 0) we_int (fun _ _ => rfl)) (we_v 1)) (wg_sub (we_v 0) we_int set_list))
      (wss_one (ws_ret (we_v 2))))) wss_nil)
      (wss_cons (ws_set (i := 3) sc__law_draw.nd rfl (Or.inl rfl) we_int)
      (wss_cons (ws_cut (ws_if (wt_cmp op_gt (we_cB cl_len (by rfl) T.b_len (by decide +kernel) (wa_k (we_ix ix_seq (we_v 0) we_int (fun _ _ => rfl)) wa_nil)) we_int (nomark _)) (wss_one (ws_set (i := 3) sc__law_draw.nd rfl (Or.inl rfl) (we_ix ix_seq (we_ix ix_seq (we_v 0) we_int (fun _ _ => rfl)) (we_op op_mod (we_ix ix_seq (we_v 0) we_int (fun _ _ => rfl)) (we_cB cl_len (by rfl) T.b_len (by decide +kernel) (wa_k (we_ix ix_seq (we_v 0) we_int (fun _ _ => rfl)) wa_nil))) (fun _ _ => rfl)))) wss_nil))
      (wss_cons (ws_set (i := 4) sc__law_draw.nd rfl (Or.inl rfl) (we_op op_mod (we_op op_add (we_op op_add (we_op op_mulB (we_op op_mod (we_v 3) we_int) we_int) (we_op op_mulB we_int (we_ix ix_seq (we_v 0) we_int (fun _ _ => rfl)))) we_int) we_int))
      (wss_cons (ws_set (i := 4) sc__law_draw.nd rfl (Or.inl rfl) (we_op op_mod (we_op op_mulB (we_v 4) (we_op op_add (we_v 4) we_int)) we_int))
      (wss_one (ws_ret (we_op op_mod (we_op op_mod (we_op op_mulB (we_v 4) we_int) we_int) (we_v 1))))))))))), ?_⟩
    refine ⟨_, rfl, ?_⟩
    refine ixL hp rfl ?_
    refine ⟨_, _, rfl, rfl, ?_⟩
    refine ⟨_, rfl, ?_⟩
    refine stG hp rfl fun H1 hp1' s1 => ?_
    have hp1 : H1 p = some (.lst [.ref L, .int (i + 1), .int r, .int j]) := hp1'
    clear hp1'
    -- while feed[2] == 0 and feed[3] < len(feed[0])
    refine while_r (fun n σ H' => ∃ r j : Int, σ = [some (.ref p), some (.int m), none, none, none] ∧ H' p = some (.lst [.ref L, .int (i + 1), .int r, .int j]) ∧ 0 ≤ r ∧ 0 ≤ j ∧ j ≤ ns.length ∧ SameBut p H H' ∧ n = ((ns.length : Int) - j).toNat)
      (fun σ H' => ∃ r j : Int, σ = [some (.ref p), some (.int m), none, none, none] ∧ H' p = some (.lst [.ref L, .int (i + 1), .int r, .int j]) ∧ 0 ≤ r ∧ 0 ≤ j ∧ j ≤ ns.length ∧ SameBut p H H')
      _ ⟨r, j, rfl, hp1, h1, h2, h3, s1, rfl⟩ ?_ ?_
    all_goals clear hp h1 h2 h3 hp1 s1
    · rintro n σ H2 ⟨r, j, rfl, hp2, h1, h2, h3, s2, rfl⟩
      have hL2 := s2.at hne hL
      refine ⟨_, rfl, ?_⟩
      refine ixL hp2 rfl ?_
      refine ⟨rfl, _, rfl, ?_⟩
      refine iteD (fun e0 => ?_) (fun e0 => ?_)
      · refine ⟨_, rfl, ?_⟩
        refine ixL hp2 rfl ?_
        refine ⟨_, rfl, ?_⟩
        refine ixL hp2 rfl ?_
        refine rlL hL2 ?_
        refine ⟨_, _, rfl, rfl, _, rfl, ?_⟩
        refine iteD (fun e1 => ?_) (fun e1 => ?_)
        · rw [List.length_map] at e1
          have hj : ∃ z, ns[j.toNat]? = some z := ⟨_, List.getElem?_eq_getElem (by omega)⟩
          obtain ⟨z, hz⟩ := hj
          have hat : atI (ns.map V.int) j = some (.int z) := by
            have := atI_nat (xs := ns.map V.int) (j := j.toNat) (v := V.int z) (by rw [List.getElem?_map, hz]; rfl)
            rwa [Int.toNat_of_nonneg h2] at this
          refine ⟨_, fun _ _ h => h, ?_⟩
          refine ⟨_, rfl, ?_⟩
          refine ixL hp2 rfl ?_
          refine ⟨_, rfl, ?_⟩
          refine ixL hp2 rfl ?_
          refine ixL hL2 hat ?_
          refine raI ?_
          refine ⟨_, _, rfl, rfl, ⟨by decide, by decide, by decide⟩, _, _, rfl, rfl, _, rfl, ?_⟩
          refine iteD (fun e2 => ?_) (fun e2 => ?_)
          · refine ⟨_, rfl, ?_⟩
            refine ixL hp2 rfl ?_
            refine ⟨_, rfl, ?_⟩
            refine ixL hp2 rfl ?_
            refine ixL hL2 hat ?_
            refine raI ?_
            refine ⟨_, rfl, ?_⟩
            refine stG hp2 rfl fun H3 hp3' s3 => ?_
            have hp3 : H3 p = some (.lst [.ref L, .int (i + 1), .int (z.natAbs : Int), .int j]) := hp3'
            refine ⟨_, rfl, ?_⟩
            refine ixL hp3 rfl ?_
            refine ⟨_, _, rfl, rfl, ?_⟩
            refine ⟨_, rfl, ?_⟩
            refine stG hp3 rfl fun H4 hp4' s4 => ?_
            exact ⟨_, by omega, _, j + 1, rfl, hp4', by omega, by omega, by omega, (s2.trans s3).trans s4, rfl⟩
          · refine ⟨_, rfl, ?_⟩
            refine ixL hp2 rfl ?_
            refine ⟨_, _, rfl, rfl, ?_⟩
            refine ⟨_, rfl, ?_⟩
            refine stG hp2 rfl fun H4 hp4' s4 => ?_
            exact ⟨_, by omega, _, j + 1, rfl, hp4', h1, by omega, by omega, s2.trans s4, rfl⟩
        · rw [List.length_map] at e1
          exact ⟨r, j, rfl, hp2, h1, h2, h3, s2⟩
      · refine iteF ?_
        exact ⟨r, j, rfl, hp2, h1, h2, h3, s2⟩
    · rintro σ H2 ⟨r, j, rfl, hp2, h1, h2, h3, s2⟩
      have hL2 := s2.at hne hL
      refine ⟨_, rfl, ?_⟩
      refine ixL hp2 rfl ?_
      refine ⟨_, _, rfl, rfl, _, rfl, ?_⟩
      refine iteD (fun e0 => ?_) (fun e0 => ?_)
      · refine ⟨_, rfl, ?_⟩
        refine ixL hp2 rfl ?_
        refine ⟨_, rfl, _, _, rfl, rfl, hm, ?_⟩
        refine ⟨_, rfl, ?_⟩
        refine ixL hp2 rfl ?_
        refine ⟨_, rfl, _, _, rfl, rfl, ⟨hm, hb⟩, ?_⟩
        refine ⟨_, rfl, ?_⟩
        refine stG hp2 rfl fun H3 hp3 s3 => ?_
        refine ⟨_, rfl, ?_⟩
        exact k _ H3 (Int.emod_nonneg _ (by omega)) (Int.emod_lt_of_pos _ hm) ⟨ns, i + 1, r / m, j, hp3, s3.at hne hL2, by omega, Int.ediv_nonneg h1 (by omega), h2, h3, h4, hne⟩ (s2.trans s3)
      · refine ⟨fun σ H3 => ∃ c : Int, σ = [some (.ref p), some (.int m), none, some (.int c), none] ∧ H3 = H2, ?_, ?_⟩
        · rintro σ H3 ⟨c, rfl, rfl⟩
          have hc := Int.emod_nonneg c (b := 2147483647) (by decide)
          have hc' := Int.emod_lt_of_pos c (b := 2147483647) (by decide)
          refine ⟨_, rfl, _, _, rfl, rfl, (by show (0 : Int) < 2147483647; decide), _, _, rfl, rfl, IntMulOk.of_right (by decide +kernel), ?_⟩
          refine ⟨_, rfl, ?_⟩
          refine ixL hp2 rfl ?_
          refine ⟨_, _, rfl, rfl, IntMulOk.of_left (by decide +kernel), _, _, rfl, rfl, _, _, rfl, rfl, _, _, rfl, rfl, (by show (0 : Int) < 2147483629; decide), ?_⟩
          generalize hz : (c % 2147483647 * 48271 + 7919 * (i + 1) + 12345) % 2147483629 = z
          have z0 : 0 ≤ z := by rw [← hz]; exact Int.emod_nonneg _ (by decide)
          have z1 : z < 2147483629 := by rw [← hz]; exact Int.emod_lt_of_pos _ (by decide)
          refine ⟨_, rfl, _, rfl, _, _, rfl, rfl, _, _, rfl, rfl, IntMulOk.of_left (PySem.intBits_le_64 (by omega) (by omega)), _, _, rfl, rfl, (by show (0 : Int) < 2147483587; decide), ?_⟩
          generalize hy : z * (z + 40692) % 2147483587 = y
          have y0 : 0 ≤ y := by rw [← hy]; exact Int.emod_nonneg _ (by decide)
          have y1 : y < 2147483587 := by rw [← hy]; exact Int.emod_lt_of_pos _ (by decide)
          refine ⟨_, rfl, _, _, rfl, rfl, IntMulOk.of_left (PySem.intBits_le_64 (by omega) (by omega)), _, _, rfl, rfl, (by show (0 : Int) < 2147483563; decide), ?_⟩
          refine ⟨_, rfl, _, _, rfl, rfl, hm, ?_⟩
          exact k _ H3 (Int.emod_nonneg _ (by omega)) (Int.emod_lt_of_pos _ hm) ⟨ns, i + 1, r, j, hp2, hL2, by omega, h1, h2, h3, h4, hne⟩ s2
        · refine ⟨_, rfl, ?_⟩
          refine ixL hp2 rfl ?_
          refine rlL hL2 ?_
          refine ⟨_, _, rfl, rfl, _, rfl, ?_⟩
          refine iteD (fun e1 => ?_) (fun e1 => ?_)
          · rw [List.length_map] at e1
            refine ⟨_, rfl, ?_⟩
            refine ixL hp2 rfl ?_
            refine ⟨_, rfl, ?_⟩
            refine ixL hp2 rfl ?_
            refine ⟨_, rfl, ?_⟩
            refine ixL hp2 rfl ?_
            refine rlL hL2 ?_
            rw [List.length_map]
            refine ⟨_, _, rfl, rfl, e1, ?_⟩
            have g0 := Int.emod_nonneg (i + 1) (b := (ns.length : Int)) (by omega)
            have g1 := Int.emod_lt_of_pos (i + 1) e1
            have hj : ∃ z, ns[((i + 1) % (ns.length : Int)).toNat]? = some z := ⟨_, List.getElem?_eq_getElem (by omega)⟩
            obtain ⟨z, hz⟩ := hj
            have hat : atI (ns.map V.int) ((i + 1) % (ns.length : Int)) = some (.int z) := by
              have := atI_nat (xs := ns.map V.int) (j := ((i + 1) % (ns.length : Int)).toNat) (v := V.int z) (by rw [List.getElem?_map, hz]; rfl)
              rwa [Int.toNat_of_nonneg g0] at this
            refine ixL hL2 hat ?_
            exact ⟨z, rfl, rfl⟩
          · exact ⟨0, rfl, rfl⟩
end

abbrev s_is_whole : Stmt := (top 7)
theorem sc_is_whole : FnScope ["thing"] ["thing"] (defScope s_is_whole) := ⟨rfl, rfl, rfl, by decide +kernel, rfl, by decide +kernel, by decide +kernel⟩
abbrev s_common_divisor : Stmt := (top 8)
theorem sc_common_divisor : FnScope ["number", "above_nought", "divided", "divisor", "rest"] ["number", "above_nought"] (defScope s_common_divisor) := ⟨rfl, rfl, rfl, by decide +kernel, rfl, by decide +kernel, by decide +kernel⟩
abbrev s_shown_whole : Stmt := (top 9)
theorem sc_shown_whole : FnScope ["number", "piece", "rest", "pieces"] ["number"] (defScope s_shown_whole) := ⟨rfl, rfl, rfl, by decide +kernel, rfl, by decide +kernel, by decide +kernel⟩
abbrev s_are_figures : Stmt := (top 10)
theorem sc_are_figures : FnScope ["text"] ["text"] (defScope s_are_figures) := ⟨rfl, rfl, rfl, by decide +kernel, rfl, by decide +kernel, by decide +kernel⟩
abbrev s_read_whole : Stmt := (top 11)
theorem sc_read_whole : FnScope ["text", "figures"] ["text"] (defScope s_read_whole) := ⟨rfl, rfl, rfl, by decide +kernel, rfl, by decide +kernel, by decide +kernel⟩
abbrev s_is_fraction : Stmt := (top 13)
theorem sc_is_fraction : FnScope ["thing"] ["thing"] (defScope s_is_fraction) := ⟨rfl, rfl, rfl, by decide +kernel, rfl, by decide +kernel, by decide +kernel⟩
abbrev s_shown_fraction : Stmt := (top 14)
theorem sc_shown_fraction : FnScope ["one"] ["one"] (defScope s_shown_fraction) := ⟨rfl, rfl, rfl, by decide +kernel, rfl, by decide +kernel, by decide +kernel⟩
abbrev s_read_fraction : Stmt := (top 15)
theorem sc_read_fraction : FnScope ["text", "numbers", "read"] ["text"] (defScope s_read_fraction) := ⟨rfl, rfl, rfl, by decide +kernel, rfl, by decide +kernel, by decide +kernel⟩
abbrev s__law_low : Stmt := (top 19)
theorem sc__law_low : FnScope ["_law_n", "_law_d", "_law_one", "_law_other"] ["_law_n", "_law_d"] (defScope s__law_low) := ⟨rfl, rfl, rfl, by decide +kernel, rfl, by decide +kernel, by decide +kernel⟩
abbrev s__law_number : Stmt := (top 20)
theorem sc__law_number : FnScope ["_law_feed_here", "_law_great", "_law_far", "_law_k"] ["_law_feed_here", "_law_great"] (defScope s__law_number) := ⟨rfl, rfl, rfl, by decide +kernel, rfl, by decide +kernel, by decide +kernel⟩
abbrev s__law_written : Stmt := (top 21)
theorem sc__law_written : FnScope ["_law_text"] ["_law_text"] (defScope s__law_written) := ⟨rfl, rfl, rfl, by decide +kernel, rfl, by decide +kernel, by decide +kernel⟩
abbrev s__law_due : Stmt := (top 22)
theorem sc__law_due : FnScope ["_law_text", "_law_words", "_law_below", "_law_n", "_law_d", "_law_found"] ["_law_text"] (defScope s__law_due) := ⟨rfl, rfl, rfl, by decide +kernel, rfl, by decide +kernel, by decide +kernel⟩
abbrev s__law_said : Stmt := (top 23)
theorem sc__law_said : FnScope ["_law_text", "_law_found", "e"] ["_law_text"] (defScope s__law_said) := ⟨rfl, rfl, rfl, by decide +kernel, rfl, by decide +kernel, by decide +kernel⟩
abbrev s__law_spoilt : Stmt := (top 24)
theorem sc__law_spoilt : FnScope ["_law_feed_here", "_law_text", "_law_some", "_law_way", "_law_at", "_law_sign"] ["_law_feed_here", "_law_text"] (defScope s__law_spoilt) := ⟨rfl, rfl, rfl, by decide +kernel, rfl, by decide +kernel, by decide +kernel⟩
abbrev s_law : Stmt := (top 25)
theorem sc_law : FnScope ["_law_script", "_law_feed_here", "_law_great", "_law_k", "_law_one", "_law_text", "_law_due_here", "_law_bent", "_law_long"] ["_law_script"] (defScope s_law) := ⟨rfl, rfl, rfl, by decide +kernel, rfl, by decide +kernel, by decide +kernel⟩
/-! ### fractions as data -/
abbrev frD (f : Fr) : PyData := .tuple [.int f.1, .int f.2]
theorem frD_at {H : Hp} {f : Fr} {v : V} (h : Rep H (frD f) v) : ∃ a, v = .ref a ∧ H a = some (.tup [.int f.1, .int f.2]) := by
  unfold Rep RepL RepL RepL at h
  obtain ⟨a, _, rfl, h1, x, _, rfl, r1, y, _, rfl, r2, rfl⟩ := h
  cases (show x = V.int f.1 from r1)
  cases (show y = V.int f.2 from r2)
  exact ⟨a, rfl, h1⟩
theorem frD_of {H : Hp} {f : Fr} {a : Addr} (h : H a = some (.tup [.int f.1, .int f.2])) : Rep H (frD f) (.ref a) := Rep.tup h (RepL.cons (Rep.int _) (RepL.cons (Rep.int _) RepL.nil))
theorem frD_flat (f : Fr) : flatD (frD f) = true := rfl
def Szf (k : Nat) (f : Fr) : Prop := f.1.natAbs < 2 ^ k ∧ f.2.natAbs < 2 ^ k
@[irreducible] def sp_cd : Sp := fun vs H Q _ => ∃ n d : Int, vs = [.int n, .int d] ∧ 0 < d ∧ Q (.int (Int.gcd n d)) H
theorem sp_cd_i {H : Hp} {Q : VK} {E : XK} {n d : Int} (h : 0 < d) (q : Q (.int (Int.gcd n d)) H) : sp_cd [.int n, .int d] H Q E := by unfold sp_cd; exact ⟨n, d, rfl, h, q⟩
/-- a new fraction -/
def NewF (H : Hp) (Q : VK) (f : Fr) : Prop := ∀ q H', H q = none → H' q = some (.tup [.int f.1, .int f.2]) → Same H H' → Q (.ref q) H'
@[irreducible] def sp_plus : Sp := fun vs H Q _ => ∃ x y f g, vs = [x, y] ∧ Rep H (frD f) x ∧ Rep H (frD g) y ∧ LowF f ∧ LowF g ∧ Szf 4000 f ∧ Szf 4000 g ∧ NewF H Q (addF f g)
theorem sp_plus_i {H : Hp} {Q : VK} {E : XK} {x y : V} {f g : Fr} (h1 : Rep H (frD f) x) (h2 : Rep H (frD g) y) (l1 : LowF f) (l2 : LowF g) (z1 : Szf 4000 f) (z2 : Szf 4000 g) (q : NewF H Q (addF f g)) : sp_plus [x, y] H Q E := by unfold sp_plus; exact ⟨x, y, f, g, rfl, h1, h2, l1, l2, z1, z2, q⟩
@[irreducible] def sp_less : Sp := fun vs H Q _ => ∃ x y f g, vs = [x, y] ∧ Rep H (frD f) x ∧ Rep H (frD g) y ∧ Szf 4000 f ∧ Szf 4000 g ∧ Q (.bl (decide (f.1 * g.2 < g.1 * f.2))) H
theorem sp_less_i {H : Hp} {Q : VK} {E : XK} {x y : V} {f g : Fr} (h1 : Rep H (frD f) x) (h2 : Rep H (frD g) y) (z1 : Szf 4000 f) (z2 : Szf 4000 g) (q : Q (.bl (decide (f.1 * g.2 < g.1 * f.2))) H) : sp_less [x, y] H Q E := by unfold sp_less; exact ⟨x, y, f, g, rfl, h1, h2, z1, z2, q⟩
@[irreducible] def sp_low : Sp := fun vs H Q _ => ∃ n d : Int, vs = [.int n, .int d] ∧ 0 < d ∧ d.natAbs < 2 ^ 9000 ∧ NewF H Q (lw n d)
theorem sp_low_i {H : Hp} {Q : VK} {E : XK} {n d : Int} (h : 0 < d) (z : d.natAbs < 2 ^ 9000) (q : NewF H Q (lw n d)) : sp_low [.int n, .int d] H Q E := by unfold sp_low; exact ⟨n, d, rfl, h, z, q⟩
theorem gcd_le {n d : Int} (h : 0 < d) : (Int.gcd n d : Int) ≤ d := Int.le_of_dvd h (Int.gcd_dvd_right n d)
theorem gcd_sz {n d : Int} {k : Nat} (h : 0 < d) (z : d.natAbs < 2 ^ k) : (Int.gcd n d : Int).natAbs < 2 ^ k := by
  have := gcd_le (n := n) h
  have := gcd_pos (n := n) h
  omega
theorem divOk {n d : Int} (h : 0 < d) (z : d.natAbs < 2 ^ 9000) : CDivB n d := ⟨h, bitsOf z⟩
theorem sz_mono {i : Int} {n m : Nat} (h : i.natAbs < 2 ^ n) (k : n ≤ m := by decide) : i.natAbs < 2 ^ m := Nat.lt_of_lt_of_le h (Nat.pow_le_pow_right (by decide) k)
theorem sz_div {i j : Int} {n : Nat} (h : i.natAbs < 2 ^ n) (hj : 0 < j) : (i / j).natAbs < 2 ^ n := Nat.lt_of_le_of_lt (by
  have := Int.natAbs_ediv_le_natAbs i j
  exact this) h
theorem sz_mul {i j : Int} {n m : Nat} (h1 : i.natAbs < 2 ^ n) (h2 : j.natAbs < 2 ^ m) : (i * j).natAbs < 2 ^ (n + m) := by
  rw [Int.natAbs_mul, Nat.pow_add]
  exact Nat.mul_lt_mul'' h1 h2
theorem sz_add {i j : Int} {n : Nat} (h1 : i.natAbs < 2 ^ n) (h2 : j.natAbs < 2 ^ n) : (i + j).natAbs < 2 ^ (n + 1) := by
  have := Int.natAbs_add_le i j
  rw [Nat.pow_succ]
  omega
section
variable {P : Program} {w : World} {K : PySem.W.Frag} {mg : Str → Option Value} {base : Heap} {c : Cl}
theorem ok_common_divisor {f : Addr} {fd : FuncData} (F : Fun K "common_divisor" "common_divisor" s_common_divisor f fd) (T : Txt K mg c) : FnOk P w K mg base CX0 1 f fd ["number", "above_nought"] sp_cd := by
  refine F.okw sc_common_divisor (fun vs H Q E h => ?_) (fun cdv A outer s H vs Q E hr h => ?_)
  · unfold sp_cd at h
    obtain ⟨n, d, rfl, _⟩ := h
    rfl
  · unfold sp_cd at h
    obtain ⟨n, d, rfl, hd, q⟩ := h
    refine ⟨_, (wss_cons (ws_set (i := 2) sc_common_divisor.nd rfl (Or.inl rfl) (we_v 0))
      (wss_cons (ws_set (i := 3) sc_common_divisor.nd rfl (Or.inl rfl) (we_v 1))
      (wss_cons (ws_while PassesOwn.never (wt_cmp op_ne (we_v 3) we_int (nomark _)) (wss_cons (ws_set (i := 4) sc_common_divisor.nd rfl (Or.inl rfl) (we_op op_mod (we_v 2) (we_v 3)))
      (wss_cons (ws_set (i := 2) sc_common_divisor.nd rfl (Or.inl rfl) (we_v 3))
      (wss_one (ws_set (i := 3) sc_common_divisor.nd rfl (Or.inl rfl) (we_v 4))))))
      (wss_one (ws_ret (we_v 2)))))), ?_⟩
    refine ⟨_, rfl, _, rfl, ?_⟩
    refine while_r (fun m σ H' => ∃ (a b : Int) (c : Option V), σ = [some (.int n), some (.int d), some (.int a), some (.int b), c] ∧ 0 ≤ b ∧ Int.gcd a b = Int.gcd n d ∧ (b = 0 → 0 < a) ∧ H' = H ∧ m = b.toNat)
      (fun σ H' => ∃ (c : Option V), σ = [some (.int n), some (.int d), some (.int (Int.gcd n d)), some (.int 0), c] ∧ H' = H)
      _ ⟨n, d, none, rfl, by omega, rfl, by omega, rfl, rfl⟩ ?_ ?_
    · rintro m σ H2 ⟨a, b, c, rfl, hb, hg, h0, rfl, rfl⟩
      refine ⟨_, rfl, rfl, _, rfl, ?_⟩
      refine iteDN (fun e => ?_) (fun e => ?_)
      · have hb' : 0 < b := by
          rcases Int.lt_or_eq_of_le hb with h | h
          · exact h
          · exact absurd (congrArg V.int h.symm) e
        refine ⟨_, rfl, _, rfl, _, _, rfl, rfl, hb', _, rfl, _, rfl, ?_⟩
        have e1 := Int.emod_lt_of_pos a hb'
        have e2 := Int.emod_nonneg a (b := b) (by omega)
        exact ⟨_, by omega, b, a % b, _, rfl, e2, by rw [gcd_step, hg], fun _ => hb', rfl, rfl⟩
      · have hb0 : b = 0 := by injection e
        subst hb0
        have ha := h0 rfl
        have e1 := gcd_end ha
        rw [hg] at e1
        rw [e1]
        exact ⟨c, rfl, rfl⟩
    · rintro σ H2 ⟨c, rfl, rfl⟩
      exact ⟨_, rfl, q⟩
theorem ok__law_low {f : Addr} {fd : FuncData} (F : Fun K "_law_low" "_law_low" s__law_low f fd) (T : Txt K mg c) : FnOk P w K mg base CX0 1 f fd ["_law_n", "_law_d"] sp_low := by
  refine F.okw sc__law_low (fun vs H Q E h => ?_) (fun cdv A outer s H vs Q E hr h => ?_)
  · unfold sp_low at h
    obtain ⟨n, d, rfl, _⟩ := h
    rfl
  · unfold sp_low at h
    obtain ⟨n, d, rfl, hd, hz, q⟩ := h
    refine ⟨_, (wss_cons (ws_par (i := 2) (j := 3) rfl sc__law_low.nd rfl rfl (by decide) rfl rfl (wa_k (we_cB cl_abs (by rfl) T.b_abs (by decide +kernel) (wa_k (we_v 0) wa_nil)) (wa_k (we_v 1) wa_nil)) rfl)
      (wss_cons (ws_while PassesOwn.never (wt_cmp op_ne (we_v 3) we_int (nomark _)) (wss_one (ws_par (i := 2) (j := 3) rfl sc__law_low.nd rfl rfl (by decide) rfl rfl (wa_k (we_v 3) (wa_k (we_op op_mod (we_v 2) (we_v 3)) wa_nil)) rfl)))
      (wss_one (ws_ret (we_tup (wa_k (we_op op_fdivB (we_v 0) (we_v 2)) (wa_k (we_op op_fdivB (we_v 1) (we_v 2)) wa_nil))))))), ?_⟩
    refine ⟨_, rfl, ?_⟩
    refine raI ?_
    refine ⟨_, rfl, ?_⟩
    refine ⟨_, _, rfl, ?_⟩
    refine while_r (fun m σ H' => ∃ (u v : Int), σ = [some (.int n), some (.int d), some (.int u), some (.int v)] ∧ 0 ≤ v ∧ Int.gcd u v = Int.gcd n d ∧ (v = 0 → 0 < u) ∧ H' = H ∧ m = v.toNat)
      (fun σ H' => σ = [some (.int n), some (.int d), some (.int (Int.gcd n d)), some (.int 0)] ∧ H' = H)
      _ ⟨(n.natAbs : Int), d, rfl, by omega, by rw [Int.gcd_eq_natAbs_gcd_natAbs, Int.gcd_eq_natAbs_gcd_natAbs, Int.natAbs_natCast], by omega, rfl, rfl⟩ ?_ ?_
    · rintro m σ H2 ⟨u, v, rfl, hb, hg, h0, rfl, rfl⟩
      refine ⟨_, rfl, rfl, _, rfl, ?_⟩
      refine iteDN (fun e => ?_) (fun e => ?_)
      · have hb' : 0 < v := by
          rcases Int.lt_or_eq_of_le hb with h | h
          · exact h
          · exact absurd (congrArg V.int h.symm) e
        refine ⟨_, rfl, _, rfl, _, rfl, _, _, rfl, rfl, hb', _, _, rfl, ?_⟩
        have e1 := Int.emod_lt_of_pos u hb'
        have e2 := Int.emod_nonneg u (b := v) (by omega)
        exact ⟨_, by omega, v, u % v, rfl, e2, by rw [gcd_step, hg], fun _ => hb', rfl, rfl⟩
      · have hb0 : v = 0 := by injection e
        subst hb0
        have hu := h0 rfl
        have e1 := gcd_end hu
        rw [hg] at e1
        rw [e1]
        exact ⟨rfl, rfl⟩
    · rintro σ H2 ⟨rfl, rfl⟩
      have hg := gcd_pos (n := n) hd
      have zg : CDivB n (Int.gcd n d : Int) := divOk hg (gcd_sz hd hz)
      refine ⟨_, rfl, _, rfl, _, _, rfl, rfl, zg, ?_⟩
      refine ⟨_, rfl, _, rfl, _, _, rfl, rfl, zg, ?_⟩
      refine nwT (by show 2 ≤ 64; decide) fun p H3 hp e3 s3 => ?_
      exact q p H3 hp e3 s3

end
end Kw

set_option Elab.async false
set_option linter.all false
set_option maxRecDepth 100000
namespace Kw
open PySem L2 Mf Mt
def optV : Option Int → V
  | none => .non
  | some n => .int n
def optD : Option Int → PyData
  | none => .none
  | some n => .int n
theorem optR {H : Hp} : ∀ o : Option Int, Rep H (optD o) (optV o)
  | none => Rep.non
  | some n => Rep.int n
@[irreducible] def sp_whole : Sp := fun vs H Q _ => ∃ o, vs = [optV o] ∧ Q (.bl o.isSome) H
theorem sp_whole_i {o : Option Int} {H : Hp} {Q : VK} {E : XK} (q : Q (.bl o.isSome) H) : sp_whole [optV o] H Q E := by unfold sp_whole; exact ⟨o, rfl, q⟩
@[irreducible] def sp_aref : Sp := fun vs H Q _ => ∃ t, vs = [.str t] ∧ t.length ≤ 20000 ∧ ∀ H', Same H H' → Q (.bl (decide (1 ≤ t.length) && decide (t.length ≤ 4000) && figs t)) H'
theorem sp_aref_i {t : Str} {H : Hp} {Q : VK} {E : XK} (z : t.length ≤ 20000) (q : ∀ H', Same H H' → Q (.bl (decide (1 ≤ t.length) && decide (t.length ≤ 4000) && figs t)) H') : sp_aref [.str t] H Q E := by unfold sp_aref; exact ⟨t, rfl, z, q⟩
@[irreducible] def sp_readw : Sp := fun vs H Q _ => ∃ t, vs = [.str t] ∧ t.length ≤ 20000 ∧ ∀ H', Same H H' → Q (optV (rd t)) H'
theorem sp_readw_i {t : Str} {H : Hp} {Q : VK} {E : XK} (z : t.length ≤ 20000) (q : ∀ H', Same H H' → Q (optV (rd t)) H') : sp_readw [.str t] H Q E := by unfold sp_readw; exact ⟨t, rfl, z, q⟩
theorem line20 {n : Nat} (h : n ≤ 20000) : n ≤ sizeLine := Nat.le_trans h (by decide)
theorem iteNE {a b : Str} {A B : Prop} (h : a ≠ b) (x : A) : if (!decide (V.str a = V.str b)) = true then A else B := by
  rw [decide_eq_false (fun z => h (by injection z))]
  exact x
theorem rlS {K : PySem.W.Frag} {H : Hp} {Q : VK} {t : Str} (z : t.length ≤ sizeLine) (q : Q (.int t.length) H) : rLen K [V.str t] H Q := by
  unfold rLen
  refine ⟨_, _, rfl, ?_, q⟩
  first | exact ⟨z, rfl⟩ | exact ⟨rfl, z⟩ | exact z | exact .inl ⟨z, rfl⟩ | exact rfl
section
variable {P : Program} {w : World} {K : PySem.W.Frag} {mg : Str → Option Value} {base : Heap} {c : Cl}
theorem ok_is_whole {f : Addr} {fd : FuncData} (F : Fun K "is_whole" "is_whole" s_is_whole f fd) (T : Txt K mg c) : FnOk P w K mg base CX0 1 f fd ["thing"] sp_whole := by
  refine F.okw sc_is_whole (fun vs H Q E h => ?_) (fun cdv A outer s H vs Q E hr h => ?_)
  · unfold sp_whole at h
    obtain ⟨o, rfl, _⟩ := h
    rfl
  · unfold sp_whole at h
    obtain ⟨o, rfl, q⟩ := h
    refine ⟨_, (wss_one (ws_ret (we_and (we_cB cl_isi (by rfl) T.b_isinstance (by decide +kernel) (wa_k (we_v 0) (wa_k (we_bltn (v := .ty "int") (u := .type "int") rfl T.b_int (by decide +kernel) rfl) wa_nil))) (we_one (we_not (we_cB cl_isi (by rfl) T.b_isinstance (by decide +kernel) (wa_k (we_v 0) (wa_k (we_bltn (v := .ty "bool") (u := .type "bool") rfl T.b_bool (by decide +kernel) rfl) wa_nil)))))))), ?_⟩
    cases o with
    | none =>
      refine ⟨_, rfl, ?_⟩
      refine riI Rep.non ?_
      refine ⟨_, rfl, ?_⟩
      refine iteF ?_
      exact q
    | some n =>
      refine ⟨_, rfl, ?_⟩
      refine riI (Rep.int n) ?_
      refine ⟨_, rfl, ?_⟩
      refine iteT ?_
      refine ⟨_, rfl, ?_⟩
      refine riI (Rep.int n) ?_
      refine ⟨_, rfl, ?_⟩
      exact q
theorem ok_are_figures {f : Addr} {fd : FuncData} (F : Fun K "are_figures" "are_figures" s_are_figures f fd) (T : Txt K mg c) : FnOk P w K mg base CX0 1 f fd ["text"] sp_aref := by
  refine F.okw sc_are_figures (fun vs H Q E h => ?_) (fun cdv A outer s H vs Q E hr h => ?_)
  · unfold sp_aref at h
    obtain ⟨t, rfl, _⟩ := h
    rfl
  · unfold sp_aref at h
    obtain ⟨t, rfl, z, q⟩ := h
    refine ⟨_, (wss_one (ws_ret (we_and (we_chain op_le op_le we_int (we_cB cl_len (by rfl) T.b_len (by decide +kernel) (wa_k (we_v 0) wa_nil)) (we_glob (v := .int 4000) rfl T.g_MOST_FIGURES ⟨_, rfl⟩)) (we_one (we_cB (cl_all rfl) (by rfl) T.b_all (by decide +kernel) (wa_k (we_comp (CScope.of (psc := defScope s_are_figures) (N := ["text"]) (N' := ["sign"]) (js := []) (by decide +kernel) rfl rfl rfl) (wi_str (we_v 0)) (fun _ _ _ _ => wts_nil) (fun _ _ _ _ => (we_cmp op_in_str (we_v 0) (we_glob (v := .str (Str.ofString "0123456789")) rfl T.g_FIGURES ⟨_, rfl⟩) (by with_unfolding_all rfl)))) wa_nil)))))), ?_⟩
    refine ⟨_, rfl, ?_⟩
    refine rlS (line20 z) ?_
    refine ⟨_, _, rfl, rfl, _, rfl, ?_⟩
    refine iteD (fun h1 => ?_) (fun h1 => ?_)
    · refine ⟨_, _, rfl, rfl, _, rfl, ?_⟩
      refine iteD (fun h2 => ?_) (fun h2 => ?_)
      · refine ⟨_, rfl, _, rfl, ?_⟩
        refine comp_str (x := t) (fun _ => true) (fun x => V.bl (dig x)) (by omega) (fun x H' Q' _ q => q) (fun x H' Q' _ q => ?_) fun D H1 hD e s1 => ?_
        · refine ⟨_, rfl, _, _, rfl, rfl, ?_⟩
          rw [in_figs]
          exact q
        · have e : H1 D = some (.lst ((t.cps.toList.map dig).map V.bl)) := by
            rw [e, List.filter_eq_self.mpr (fun _ _ => rfl), List.map_map]
            rfl
          refine rall e ?_
          have q1 := q H1 s1
          rw [decide_eq_true (show 1 ≤ t.length by omega), decide_eq_true (show t.length ≤ 4000 by omega)] at q1
          have e2 : (t.cps.toList.map dig).all id = figs t := by unfold figs; rw [List.all_map]; rfl
          rw [e2]
          exact q1
      · have q1 := q H (Same.refl _)
        rw [decide_eq_false (show ¬ t.length ≤ 4000 by omega), Bool.and_false, Bool.false_and] at q1
        exact q1
    · have q1 := q H (Same.refl _)
      rw [decide_eq_false (show ¬ 1 ≤ t.length by omega), Bool.false_and, Bool.false_and] at q1
      refine ⟨_, rfl, ?_⟩
      refine iteF ?_
      exact q1
theorem ok_read_whole {f : Addr} {fd : FuncData} (F : Fun K "read_whole" "read_whole" s_read_whole f fd) (T : Txt K mg c) (F_are_figures : FnC CX0 P w K mg base 1 "are_figures" ["text"] sp_aref) : FnOk P w K mg base CX0 2 f fd ["text"] sp_readw := by
  refine F.okw sc_read_whole (fun vs H Q E h => ?_) (fun cdv A outer s H vs Q E hr h => ?_)
  · unfold sp_readw at h
    obtain ⟨t, rfl, _⟩ := h
    rfl
  · unfold sp_readw at h
    obtain ⟨t, rfl, z, q⟩ := h
    refine ⟨_, (wss_cons (ws_cut (ws_set (i := 1) sc_read_whole.nd rfl (Or.inl rfl) (we_ifExp (wt_val (we_bm PySem.F.plainAttrs_str PySem.F.slot_str_startswith PySem.F.type_str_startswith mt_starts (we_v 0) (wa_k we_str wa_nil))) (we_slice sl_str (we_v 0) (wo_some we_int) wo_none) (we_v 0))))
      (wss_cons (ws_if (wt_not (wt_val (we_fn F_are_figures (hr.mono (by decide)) (wa_k (we_v 1) wa_nil)))) (wss_one (ws_ret we_non)) wss_nil)
      (wss_cons (ws_if (wt_w (ww_and (wt_val (we_bm PySem.F.plainAttrs_str PySem.F.slot_str_startswith PySem.F.type_str_startswith mt_starts (we_v 1) (wa_k we_str wa_nil))) (ww_and1 (wt_cmp op_ne (we_v 0) we_str (nomark _))))) (wss_one (ws_ret we_non)) wss_nil)
      (wss_one (ws_ret (we_cT (cl_intT T.nd) (by rfl) T.b_int (by decide +kernel) (wa_k (we_v 0) wa_nil))))))), ?_⟩
    have zf := fg_len t
    have es : Txt.startswith t (Str.ofString "-") = neg t := starts_one t 45
    have e0 : Txt.startswith (fg t) (Str.ofString "0") = decide ((fg t).cps.toList.head? = some 48) := starts_one (fg t) 48
    refine ⟨fun σ H' => σ = [some (.str t), some (.str (fg t))] ∧ H' = H, ?_, ?_⟩
    · rintro σ H1 ⟨rfl, rfl⟩
      refine ⟨_, rfl, ?_⟩
      refine sp_aref_i (by omega) fun H2 s2 => ?_
      refine ⟨_, rfl, ?_⟩
      have q2 := q H2 s2
      by_cases h1 : (decide (1 ≤ (fg t).length) && decide ((fg t).length ≤ 4000) && figs (fg t)) = true
      · rw [h1]
        refine iteF ?_
        refine ⟨_, rfl, rfl, ?_⟩
        refine rstarts ?_
        rw [e0]
        refine ⟨_, rfl, ?_⟩
        have hd : rdB t = !(decide ((fg t).cps.toList.head? = some 48) && !decide (t = zero)) := by
          unfold rdB; rw [h1, Bool.true_and]
        have go : rdB t = true → tRet (tCB rIntT (tCons (tVar 0) tNil)) { nx := fun x H' => Q V.non H', rt := Q } [some (.str t), some (.str (fg t))] H2 := by
          intro hb
          refine ⟨_, rfl, ?_⟩
          have h2 : figs (fg t) = true := by
            simp only [Bool.and_eq_true] at h1
            exact h1.2
          have h3 : 1 ≤ (fg t).length := by
            simp only [Bool.and_eq_true] at h1
            exact of_decide_eq_true h1.1.1
          have h4 : (fg t).length ≤ 4000 := by
            simp only [Bool.and_eq_true] at h1
            exact of_decide_eq_true h1.1.2
          have hne : (fg t).cps.toList ≠ [] := fun e => by
            rw [← len_toList, e] at h3
            exact absurd h3 (by decide)
          unfold rd at q2
          rw [if_pos hb] at q2
          by_cases hn : neg t = true
          · have ec : t.cps.toList = 45 :: (fg t).cps.toList := by
              have hh : t.cps.toList.head? = some 45 := of_decide_eq_true hn
              unfold fg
              rw [if_pos hn]
              cases q3 : t.cps.toList with
              | nil => rw [q3] at hh; cases hh
              | cons x r => rw [q3] at hh; cases hh; rfl
            have hl : t.length = (fg t).length + 1 := by rw [← len_toList, ec, List.length_cons, len_toList]
            refine rintT (n := rdV t) ?_ ?_ (line20 z) q2
            · intro x hx
              rw [ec] at hx
              rcases List.mem_cons.mp hx with rfl | hx
              · exact .inl rfl
              · exact .inr (figs_all h2 x hx)
            · unfold rdV
              rw [if_pos hn]
              exact PySem.intText_neg ec (figs_all h2) hne (by omega)
          · have ef : fg t = t := by unfold fg; rw [if_neg hn]
            rw [ef] at h2 hne h4
            refine rintT (n := rdV t) ?_ ?_ (line20 z) q2
            · exact fun x hx => .inr (figs_all h2 x hx)
            · unfold rdV
              rw [if_neg hn, ef]
              exact PySem.intText_digits (figs_all h2) hne (by omega)
        by_cases c1 : (fg t).cps.toList.head? = some 48
        · rw [decide_eq_true c1] at hd ⊢
          refine iteT ?_
          refine ⟨_, rfl, rfl, _, rfl, ?_⟩
          by_cases c2 : t = zero
          · rw [decide_eq_true c2] at hd
            refine iteNS (by rw [c2]; rfl) ?_
            exact go (by rw [hd]; rfl)
          · rw [decide_eq_false c2] at hd
            refine iteNE (fun z => c2 z) ?_
            unfold rd at q2
            rw [hd] at q2
            exact q2
        · rw [decide_eq_false c1] at hd ⊢
          refine iteF ?_
          exact go (by rw [hd]; rfl)
      · have h1 : (decide (1 ≤ (fg t).length) && decide ((fg t).length ≤ 4000) && figs (fg t)) = false := by simpa using h1
        rw [h1]
        refine iteT ?_
        have : rdB t = false := by unfold rdB; rw [h1, Bool.false_and]
        unfold rd at q2
        rw [this] at q2
        exact q2
    · refine ⟨_, rfl, rfl, ?_⟩
      refine rstarts ?_
      rw [es]
      refine ⟨_, rfl, ?_⟩
      by_cases hn : neg t = true
      · rw [hn]
        refine iteT ?_
        have hh : t.cps.toList.head? = some 45 := of_decide_eq_true hn
        have h1 : 1 ≤ t.length := by
          rw [← len_toList]
          cases q3 : t.cps.toList with
          | nil => rw [q3] at hh; cases hh
          | cons x r => simp
        have ef : Txt.slice t (some 1) none = fg t := str_ext (by
          rw [slice_from (by decide) (by omega)]
          unfold fg
          rw [if_pos hn]
          rfl)
        refine ⟨_, rfl, _, rfl, t, rfl, line20 z, ?_⟩
        rw [ef]
        exact ⟨rfl, rfl⟩
      · have ef : fg t = t := by unfold fg; rw [if_neg hn]
        have hn : neg t = false := by simpa using hn
        rw [hn]
        refine iteF ?_
        exact ⟨_, rfl, by rw [ef]; rfl, rfl⟩
end
end Kw

set_option Elab.async false
set_option linter.all false
set_option maxRecDepth 100000
namespace Kw
open PySem L2 Mf Mt
/-! ### whole numbers shown -/
@[irreducible] def sp_shw : Sp := fun vs H Q _ => ∃ n : Int, vs = [.int n] ∧ n.natAbs < 2 ^ 8000 ∧ ∀ H', Same H H' → Q (.str (tx n)) H'
theorem sp_shw_i {n : Int} {H : Hp} {Q : VK} {E : XK} (z : n.natAbs < 2 ^ 8000) (q : ∀ H', Same H H' → Q (.str (tx n)) H') : sp_shw [.int n] H Q E := by unfold sp_shw; exact ⟨n, rfl, z, q⟩
def isf : List (Option Int) → Bool
  | [some n, some d] => decide (1 ≤ d) && decide (Int.gcd n d = 1)
  | _ => false
theorem isf_len {os : List (Option Int)} (h : os.length ≠ 2) : isf os = false := by
  match os, h with
  | [], _ => rfl
  | [a], _ => cases a <;> rfl
  | [a, b], h => exact absurd rfl h
  | a :: b :: c :: r, _ => cases a <;> cases b <;> rfl
theorem big8 {n : Int} (h : n.natAbs < 2 ^ 8000) : n.natAbs < 10 ^ 4300 := Nat.lt_of_lt_of_le h (Nat.le_trans (Nat.pow_le_pow_right (by decide) (by decide)) PyProof.Rows.pow_lo)
theorem tx_len {n : Int} (h : n.natAbs < 10 ^ 4300) : (tx n).length ≤ 4301 := by
  unfold tx
  rw [PySem.ofString_length]
  exact int_text_length_le10 (k := 4300) (by decide) h
theorem app_len (a b : Str) : (a ++ b).length = a.length + b.length := by
  rw [← len_toList, ← len_toList, ← len_toList, app_cps, List.length_append]
@[irreducible] def sp_isf : Sp := fun vs H Q _ => ∃ (a : Addr) (os : List (Option Int)), vs = [.ref a] ∧ H a = some (.tup (os.map optV)) ∧ os.length ≤ 20000 ∧ Q (.bl (isf os)) H
theorem sp_isf_i {a : Addr} {os : List (Option Int)} {H : Hp} {Q : VK} {E : XK} (e : H a = some (.tup (os.map optV))) (z : os.length ≤ 20000) (q : Q (.bl (isf os)) H) : sp_isf [.ref a] H Q E := by unfold sp_isf; exact ⟨a, os, rfl, e, z, q⟩
@[irreducible] def sp_shf : Sp := fun vs H Q _ => ∃ (a : Addr) (n d : Int), vs = [.ref a] ∧ H a = some (.tup [.int n, .int d]) ∧ n.natAbs < 2 ^ 8000 ∧ d.natAbs < 2 ^ 8000 ∧ ∀ H', Same H H' → Q (.str (if d = 1 then tx n else tx n ++ sl ++ tx d)) H'
theorem sp_shf_i {a : Addr} {n d : Int} {H : Hp} {Q : VK} {E : XK} (e : H a = some (.tup [.int n, .int d])) (z1 : n.natAbs < 2 ^ 8000) (z2 : d.natAbs < 2 ^ 8000) (q : ∀ H', Same H H' → Q (.str (if d = 1 then tx n else tx n ++ sl ++ tx d)) H') : sp_shf [.ref a] H Q E := by unfold sp_shf; exact ⟨a, n, d, rfl, e, z1, z2, q⟩
section
variable {P : Program} {w : World} {K : PySem.W.Frag} {mg : Str → Option Value} {base : Heap} {c : Cl}
theorem ok_is_fraction {f : Addr} {fd : FuncData} (F : Fun K "is_fraction" "is_fraction" s_is_fraction f fd) (T : Txt K mg c) (F_is_whole : FnC CX0 P w K mg base 1 "is_whole" ["thing"] sp_whole) (F_common_divisor : FnC CX0 P w K mg base 1 "common_divisor" ["number", "above_nought"] sp_cd) : FnOk P w K mg base CX0 2 f fd ["thing"] sp_isf := by
  refine F.okw sc_is_fraction (fun vs H Q E h => ?_) (fun cdv A outer s H vs Q E hr h => ?_)
  · unfold sp_isf at h
    obtain ⟨t, _, rfl, _⟩ := h
    rfl
  · unfold sp_isf at h
    obtain ⟨a, os, rfl, e, z, q⟩ := h
    have rp : Rep H (.tuple (os.map optD)) (.ref a) := Rep.tup e (by
      clear e q z
      induction os with
      | nil => exact RepL.nil
      | cons o r ih => exact RepL.cons (optR o) ih)
    refine ⟨_, (wss_cons (ws_if (wt_w (ww_or (wt_not (wt_val (we_cB cl_isi (by rfl) T.b_isinstance (by decide +kernel) (wa_k (we_v 0) (wa_k (we_bltn (v := .ty "tuple") (u := .type "tuple") rfl T.b_tuple (by decide +kernel) rfl) wa_nil))))) (ww_or1 (wt_cmp op_ne (we_cB cl_len (by rfl) T.b_len (by decide +kernel) (wa_k (we_v 0) wa_nil)) we_int (nomark _))))) (wss_one (ws_ret we_bl)) wss_nil)
      (wss_cons (ws_if (wt_w (ww_or (wt_not (wt_val (we_fn F_is_whole (hr.mono (by decide)) (wa_k (we_ix ix_seq (we_v 0) we_int (fun _ _ => rfl)) wa_nil)))) (ww_or1 (wt_not (wt_val (we_fn F_is_whole (hr.mono (by decide)) (wa_k (we_ix ix_seq (we_v 0) we_int (fun _ _ => rfl)) wa_nil))))))) (wss_one (ws_ret we_bl)) wss_nil)
      (wss_one (ws_ret (we_and (we_cmp op_ge (we_ix ix_seq (we_v 0) we_int (fun _ _ => rfl)) we_int (nomark _)) (we_one (we_cmp op_eq (we_fn F_common_divisor (hr.mono (by decide)) (wa_k (we_ix ix_seq (we_v 0) we_int (fun _ _ => rfl)) (wa_k (we_ix ix_seq (we_v 0) we_int (fun _ _ => rfl)) wa_nil))) we_int (nomark _)))))))), ?_⟩
    refine ⟨_, rfl, ?_⟩
    refine riI rp ?_
    refine ⟨_, rfl, ?_⟩
    refine iteF ?_
    refine ⟨_, rfl, ?_⟩
    refine rlT e ?_
    refine ⟨rfl, _, rfl, ?_⟩
    by_cases hl : os.length = 2
    · match os, hl with
      | [o1, o2], _ =>
      refine iteF ?_
      refine ⟨_, rfl, ?_⟩
      refine ixT e rfl ?_
      refine sp_whole_i ?_
      refine ⟨_, rfl, ?_⟩
      cases o1 with
      | none =>
        refine iteT ?_
        refine iteT ?_
        exact q
      | some n =>
        refine iteF ?_
        refine ⟨_, rfl, ?_⟩
        refine ixT e rfl ?_
        refine sp_whole_i ?_
        refine ⟨_, rfl, ?_⟩
        cases o2 with
        | none =>
          refine iteT ?_
          exact q
        | some d =>
          refine iteF ?_
          refine ⟨_, rfl, ?_⟩
          refine ixT e rfl ?_
          refine ⟨_, _, rfl, rfl, _, rfl, ?_⟩
          have eq : isf [some n, some d] = (decide (1 ≤ d) && decide (Int.gcd n d = 1)) := rfl
          rw [eq] at q
          refine iteD (fun h1 => ?_) (fun h1 => ?_)
          · rw [decide_eq_true h1, Bool.true_and] at q
            refine ⟨_, rfl, ?_⟩
            refine ixT e rfl ?_
            refine ⟨_, rfl, ?_⟩
            refine ixT e rfl ?_
            refine sp_cd_i (by omega) ?_
            refine ⟨rfl, ?_⟩
            have : decide (V.int (Int.gcd n d : Int) = V.int 1) = decide (Int.gcd n d = 1) := decide_eq_decide.mpr ⟨fun z => by injection z with z; omega, fun z => by rw [z]; rfl⟩
            rw [this]
            exact q
          · rw [decide_eq_false h1, Bool.false_and] at q
            exact q
    · rw [decide_eq_false (fun z => hl (by injection z with z; rw [List.length_map] at z; omega))]
      refine iteT ?_
      rw [isf_len hl] at q
      exact q
theorem ok_shown_fraction {f : Addr} {fd : FuncData} (F : Fun K "shown_fraction" "shown_fraction" s_shown_fraction f fd) (T : Txt K mg c) (F_shown_whole : FnC CX0 P w K mg base 1 "shown_whole" ["number"] sp_shw) : FnOk P w K mg base CX0 2 f fd ["one"] sp_shf := by
  refine F.okw sc_shown_fraction (fun vs H Q E h => ?_) (fun cdv A outer s H vs Q E hr h => ?_)
  · unfold sp_shf at h
    obtain ⟨t, _, _, rfl, _⟩ := h
    rfl
  · unfold sp_shf at h
    obtain ⟨a, n, d, rfl, e, z1, z2, q⟩ := h
    refine ⟨_, (wss_cons (ws_if (wt_cmp op_eq (we_ix ix_seq (we_v 0) we_int (fun _ _ => rfl)) we_int (nomark _)) (wss_one (ws_ret (we_fn F_shown_whole (hr.mono (by decide)) (wa_k (we_ix ix_seq (we_v 0) we_int (fun _ _ => rfl)) wa_nil)))) wss_nil)
      (wss_one (ws_ret (we_op op_add_str (we_op op_add_str (we_fn F_shown_whole (hr.mono (by decide)) (wa_k (we_ix ix_seq (we_v 0) we_int (fun _ _ => rfl)) wa_nil)) we_str) (we_fn F_shown_whole (hr.mono (by decide)) (wa_k (we_ix ix_seq (we_v 0) we_int (fun _ _ => rfl)) wa_nil)))))), ?_⟩
    refine ⟨_, rfl, ?_⟩
    refine ixT e rfl ?_
    refine ⟨rfl, _, rfl, ?_⟩
    refine iteD (fun h => ?_) (fun h => ?_)
    · have hd : d = 1 := by injection h
      rw [if_pos hd] at q
      refine ⟨_, rfl, ?_⟩
      refine ixT e rfl ?_
      exact sp_shw_i z1 q
    · have hd : d ≠ 1 := fun x => h (by rw [x])
      rw [if_neg hd] at q
      refine ⟨_, rfl, ?_⟩
      refine ixT e rfl ?_
      refine sp_shw_i z1 fun H1 s1 => ?_
      have l1 := tx_len (big8 z1)
      have l2 := tx_len (big8 z2)
      have ls : (Str.ofString "/").length = 1 := rfl
      refine ⟨_, _, rfl, rfl, by rw [ls, sizeLine_eq]; omega, ?_⟩
      refine ⟨_, rfl, ?_⟩
      refine ixT (s1 _ _ e) rfl ?_
      refine sp_shw_i z2 fun H2 s2 => ?_
      refine ⟨_, _, rfl, rfl, by rw [app_len, ls, sizeLine_eq]; omega, ?_⟩
      exact q H2 (s1.trans s2)
end
end Kw

set_option Elab.async false
set_option linter.all false
set_option maxRecDepth 100000
namespace Kw
open PySem L2 Mf Mt PySem.NumText
/-! ### the pieces of 64 figures -/
def cat (ps : List Str) : List Nat := (ps.reverse.map fun p : Str => p.cps.toList).flatten
theorem cat_snoc (ps : List Str) (p : Str) : cat (ps ++ [p]) = p.cps.toList ++ cat ps := by unfold cat; simp
structure Pieces (n : Int) (ps : List Str) (r : Nat) : Prop where
  all : AllDigits (cat ps)
  len : (cat ps).length = 64 * ps.length
  sum : r * 10 ^ (64 * ps.length) + digitsVal (cat ps) = n.natAbs
  pos : ps = [] ∨ 0 < r
theorem Pieces.nil (n : Int) : Pieces n [] n.natAbs := ⟨(fun _ h => by cases h), rfl, (by show n.natAbs * 1 + 0 = _; omega), .inl rfl⟩
theorem Pieces.few {n : Int} {ps : List Str} {r : Nat} (h : Pieces n ps r) (z : n.natAbs < 2 ^ 8000) : ps.length ≤ 500 := by
  rcases h.pos with e | hr
  · rw [e]; exact Nat.zero_le _
  · refine Nat.le_of_not_lt fun hl => ?_
    have h1 : 10 ^ (64 * ps.length) ≤ n.natAbs := by
      have := h.sum
      have h2 : 10 ^ (64 * ps.length) ≤ r * 10 ^ (64 * ps.length) := Nat.le_mul_of_pos_left _ hr
      omega
    have h3 : 2 ^ 8000 ≤ 10 ^ (64 * ps.length) := Nat.le_trans (Nat.pow_le_pow_right (by decide) (by omega)) (Nat.pow_le_pow_left (by decide) _)
    exact absurd (Nat.lt_of_lt_of_le z (Nat.le_trans h3 h1)) (Nat.lt_irrefl _)
/-- one piece -/
def pc (r : Nat) : Str := Txt.zfill (tx (r : Int)) 64
theorem dg_short {r : Nat} (h : r < 10 ^ 64) : (dg r).length ≤ 64 := by
  unfold dg
  rw [List.length_map]
  exact PyProof.Rows.digits10_le (by decide) h
theorem pc_cps {r : Nat} (h : r < 10 ^ 64) : (pc r).cps.toList = List.replicate (64 - (dg r).length) 48 ++ dg r := by
  have hl : (tx (r : Int)).length = (dg r).length := by rw [← len_toList, tx_nat]
  have hs := dg_short h
  unfold pc Txt.zfill
  rw [hl]
  by_cases e : (64 : Int) ≤ ((dg r).length : Nat)
  · rw [if_pos e, tx_nat, show 64 - (dg r).length = 0 by omega]
    rfl
  · rw [if_neg e]
    obtain ⟨c0, r0, e0⟩ : ∃ c0 r0, dg r = c0 :: r0 := by
      cases q : dg r with
      | nil => exact absurd q (dg_ne r)
      | cons x y => exact ⟨x, y, rfl⟩
    have hc := dg_all r c0 (by rw [e0]; exact List.mem_cons_self)
    have ht : (tx (r : Int)).cps[0]? = some c0 := by
      have : (tx (r : Int)).cps.toList[0]? = some c0 := by rw [tx_nat, e0]; rfl
      simpa using this
    have ez : zfilled (tx (r : Int)) ((64 : Int).toNat - (dg r).length) = Builtin.Str.padded (tx (r : Int)) ((64 : Int).toNat - (dg r).length) 0 48 := by
      unfold zfilled
      rw [ht]
      split
      · rename_i q; injection q with q; omega
      · rename_i q; injection q with q; omega
      · rfl
    rw [ez]
    unfold Builtin.Str.padded
    simp only [Array.toList_append, Array.toList_replicate]
    rw [tx_nat]
    simp
theorem Pieces.more {n : Int} {ps : List Str} {r : Nat} (h : Pieces n ps r) (hr : 10 ^ 64 ≤ r) : Pieces n (ps ++ [pc (r % 10 ^ 64)]) (r / 10 ^ 64) := by
  have hm : r % 10 ^ 64 < 10 ^ 64 := Nat.mod_lt _ (Nat.pow_pos (by decide))
  have hs := dg_short hm
  have ec := pc_cps hm
  have el : (pc (r % 10 ^ 64)).cps.toList.length = 64 := by rw [ec, List.length_append, List.length_replicate]; omega
  refine ⟨?_, ?_, ?_, .inr (Nat.div_pos hr (Nat.pow_pos (by decide)))⟩
  · rw [cat_snoc, ec]
    intro x hx
    rcases List.mem_append.mp hx with hx | hx
    · rcases List.mem_append.mp hx with hx | hx
      · have := List.eq_of_mem_replicate hx; omega
      · exact dg_all _ x hx
    · exact h.all x hx
  · rw [cat_snoc, List.length_append, el, h.len, List.length_append, List.length_singleton]; omega
  · rw [cat_snoc, dv_append, ec, dv_zeros, dg_val, h.len, List.length_append, List.length_singleton, ← h.sum]
    have e : 10 ^ (64 * (ps.length + 1)) = 10 ^ 64 * 10 ^ (64 * ps.length) := by rw [← Nat.pow_add]; congr 1; omega
    rw [e, ← Nat.mul_assoc, ← Nat.add_assoc, ← Nat.add_mul, Nat.div_add_mod']
theorem Pieces.shown {n : Int} {ps : List Str} {r : Nat} (h : Pieces n ps r) (hr : r < 10 ^ 64) : dg r ++ cat ps = dg n.natAbs := by
  have ha : AllDigits (dg r ++ cat ps) := fun x hx => by
    rcases List.mem_append.mp hx with hx | hx
    · exact dg_all _ x hx
    · exact h.all x hx
  have hv : digitsVal (dg r ++ cat ps) = n.natAbs := by rw [dv_append, dg_val, h.len, h.sum]
  rw [← hv]
  refine (dg_of ha (fun e => dg_ne r (List.append_eq_nil_iff.mp e).1) ?_).symm
  rcases Nat.eq_zero_or_pos r with e | hp
  · rcases h.pos with e2 | hp
    · subst e e2
      exact .inl (by rw [dg_zero]; rfl)
    · omega
  · obtain ⟨x, y, e, hx⟩ := dg_head hp
    exact .inr ⟨x, y ++ cat ps, by rw [e]; rfl, hx⟩
theorem flat_le {t : Str} : ∀ {l : List Str}, t ∈ l → t.length ≤ ((l.map fun p : Str => p.cps.toList).flatten).length
  | [], h => by cases h
  | a :: r, h => by
    rw [List.map_cons, List.flatten_cons, List.length_append, len_toList]
    rcases List.mem_cons.mp h with rfl | h
    · omega
    · have := flat_le h; omega
theorem fold_le (B : Nat) : ∀ (l : List Str) (a : Nat), (∀ t ∈ l, t.length ≤ B) → l.foldl (fun x y => x + y.length + 0) a ≤ a + l.length * B
  | [], a, _ => by simp
  | x :: r, a, h => by
    have h1 := h x List.mem_cons_self
    have h2 := fold_le B r (a + x.length + 0) (fun t ht => h t (List.mem_cons_of_mem _ ht))
    rw [List.foldl_cons, List.length_cons, Nat.succ_mul]
    omega
theorem joinOk {ts : List Str} (h : ts.length ≤ 502) (hb : ∀ t ∈ ts, t.length ≤ 5000) : JoinOk (Str.ofString "") ts = true := by
  unfold JoinOk
  have e : ts.toArray.foldl (· + ·.length + (Str.ofString "").length) 0 = ts.foldl (fun x y => x + y.length + 0) 0 := by
    rw [List.foldl_toArray]
    rfl
  have h1 := fold_le 5000 ts 0 hb
  have h2 : ts.length * 5000 ≤ 502 * 5000 := Nat.mul_le_mul_right _ h
  rw [e]
  unfold Builtin.Str.tooLong
  generalize List.foldl (fun x y => x + y.length + 0) 0 ts = m at h1
  rw [sizeLine_eq, decide_eq_false (by omega)]
  rfl
theorem hP : (10 : Int) ^ (64 : Int).toNat = ((10 ^ 64 : Nat) : Int) := by decide
theorem join_cps : ∀ ts : List Str, (Txt.join (Str.ofString "") ts).cps.toList = (ts.map fun p : Str => p.cps.toList).flatten := by
  intro ts
  unfold Txt.join
  rw [StrLaws.glued_eq_join]
  induction ts with
  | nil => rfl
  | cons a r ih =>
    cases r with
    | nil => show a.cps.toList = _; simp
    | cons b r =>
      show (a ++ Str.ofString "" ++ Str.join (Str.ofString "") (b :: r)).cps.toList = _
      rw [app_cps, app_cps, ih]
      show a.cps.toList ++ [] ++ _ = _
      simp
section
variable {P : Program} {w : World} {K : PySem.W.Frag} {mg : Str → Option Value} {base : Heap} {c : Cl}
set_option maxHeartbeats 4000000 in
theorem ok_shown_whole {f : Addr} {fd : FuncData} (F : Fun K "shown_whole" "shown_whole" s_shown_whole f fd) (T : Txt K mg c) : FnOk P w K mg base CX0 1 f fd ["number"] sp_shw := by
  refine F.okw sc_shown_whole (fun vs H Q E h => ?_) (fun cdv A outer s H vs Q E hr h => ?_)
  · unfold sp_shw at h
    obtain ⟨n, rfl, _⟩ := h
    rfl
  · unfold sp_shw at h
    obtain ⟨n, rfl, z, q⟩ := h
    refine ⟨_, (wss_cons (ws_set (i := 1) sc_shown_whole.nd rfl (Or.inl rfl) (we_op op_pow we_int we_int))
      (wss_cons (ws_set (i := 2) sc_shown_whole.nd rfl (Or.inl rfl) (we_cB cl_abs (by rfl) T.b_abs (by decide +kernel) (wa_k (we_v 0) wa_nil)))
      (wss_cons (ws_set (i := 3) sc_shown_whole.nd rfl (Or.inl rfl) (we_lst wa_nil))
      (wss_cons (ws_while PassesOwn.never (wt_cmp op_ge (we_v 2) (we_v 1) (nomark _)) (wss_cons (ws_expr (we_bm PySem.F.plainAttrs_list PySem.F.slot_list_append PySem.F.type_list_append mt_app (we_v 3) (wa_k (we_bm PySem.F.plainAttrs_str PySem.F.slot_str_zfill PySem.F.type_str_zfill mt_zfill (we_cT (cl_strI rfl T.nd) (by rfl) T.b_str (by decide +kernel) (wa_k (we_op op_mod (we_v 2) (we_v 1)) wa_nil)) (wa_k (we_glob (v := .int 64) rfl T.g_PIECE_FIGURES ⟨_, rfl⟩) wa_nil)) wa_nil)))
      (wss_one (ws_set (i := 2) sc_shown_whole.nd rfl (Or.inl rfl) (we_op op_fdivB (we_v 2) (we_v 1))))))
      (wss_cons (ws_expr (we_bm PySem.F.plainAttrs_list PySem.F.slot_list_append PySem.F.type_list_append mt_app (we_v 3) (wa_k (we_cT (cl_strI rfl T.nd) (by rfl) T.b_str (by decide +kernel) (wa_k (we_v 2) wa_nil)) wa_nil)))
      (wss_cons (ws_cut (ws_if (wt_cmp op_lt (we_v 0) we_int (nomark _)) (wss_one (ws_expr (we_bm PySem.F.plainAttrs_list PySem.F.slot_list_append PySem.F.type_list_append mt_app (we_v 3) (wa_k we_str wa_nil)))) wss_nil))
      (wss_one (ws_ret (we_joinRev rfl we_str rfl T.b_reversed (wa_k (we_v 3) wa_nil)))))))))), ?_⟩
    refine ⟨_, _, rfl, rfl, ⟨by decide, by decide, by decide⟩, ?_⟩
    refine ⟨_, rfl, ?_⟩
    refine raI ?_
    refine nwL (by show 0 ≤ 64; decide) fun L H1 hL e1 s1 => ?_
    refine while_r (fun m σ H' => ∃ (ps : List Str) (r : Nat), σ = [some (.int n), some (.int (10 ^ (64 : Int).toNat)), some (.int (r : Int)), some (.ref L)] ∧ Pieces n ps r ∧ H' L = some (.lst (ps.map V.str)) ∧ Same H H' ∧ m = r)
      (fun σ H' => ∃ (ps : List Str) (r : Nat), σ = [some (.int n), some (.int (10 ^ (64 : Int).toNat)), some (.int (r : Int)), some (.ref L)] ∧ Pieces n ps r ∧ H' L = some (.lst (ps.map V.str)) ∧ Same H H' ∧ r < 10 ^ 64)
      _ ⟨[], n.natAbs, rfl, Pieces.nil n, e1, s1, rfl⟩ ?_ ?_
    · rintro m σ H2 ⟨ps, r, rfl, pz, e2, s2, rfl⟩
      refine ⟨_, rfl, _, rfl, _, _, rfl, rfl, _, rfl, ?_⟩
      refine iteD (fun h => ?_) (fun h => ?_)
      · have hr : 10 ^ 64 ≤ m := by rw [hP] at h; omega
        have hm : m % 10 ^ 64 < 10 ^ 64 := Nat.mod_lt _ (Nat.pow_pos (by decide))
        have hp : (0 : Int) < 10 ^ (64 : Int).toNat := by decide
        refine ⟨_, rfl, tyL e2, ?_⟩
        refine ⟨_, rfl, _, rfl, _, _, rfl, rfl, hp, ?_⟩
        have em : (m : Int) % 10 ^ (64 : Int).toNat = ((m % 10 ^ 64 : Nat) : Int) := by rw [hP]; rfl
        have ed : (m : Int) / 10 ^ (64 : Int).toNat = ((m / 10 ^ 64 : Nat) : Int) := by rw [hP]; rfl
        refine rstrI (by
          rw [em, Int.natAbs_natCast]
          exact Nat.lt_of_lt_of_le hm (Nat.pow_le_pow_right (by decide) (by decide))) ?_
        refine ⟨rfl, ?_⟩
        refine rzfill (by decide +kernel) ?_
        refine appL e2 (by rw [List.length_map]; have := pz.few z; omega) fun H3 e3 s3 => ?_
        refine ⟨_, rfl, _, rfl, _, _, rfl, rfl, ⟨hp, by decide +kernel⟩, ?_⟩
        rw [em] at e3
        refine ⟨m / 10 ^ 64, Nat.div_lt_self (Nat.lt_of_lt_of_le (Nat.pow_pos (by decide)) hr) (by decide), ps ++ [pc (m % 10 ^ 64)], m / 10 ^ 64, by rw [← ed]; rfl, pz.more hr, ?_, Same.thru hL s2 s3, rfl⟩
        rw [List.map_append]
        exact e3
      · exact ⟨ps, m, rfl, pz, e2, s2, by rw [hP] at h; omega⟩
    · rintro σ H2 ⟨ps, r, rfl, pz, e2, s2, hr⟩
      refine ⟨_, rfl, tyL e2, ?_⟩
      refine ⟨_, rfl, ?_⟩
      refine rstrI (by
          rw [Int.natAbs_natCast]
          exact Nat.lt_of_lt_of_le hr (Nat.pow_le_pow_right (by decide) (by decide))) ?_
      have hf := pz.few z
      refine appL e2 (by rw [List.length_map]; omega) fun H3 e3 s3 => ?_
      have e3 : H3 L = some (.lst ((ps ++ [tx (r : Int)]).map V.str)) := by rw [List.map_append]; exact e3
      have s3 := Same.thru hL s2 s3
      refine ⟨fun σ H' => σ = [some (.int n), some (.int (10 ^ (64 : Int).toNat)), some (.int (r : Int)), some (.ref L)] ∧ ∃ ts : List Str, H' L = some (.lst (ts.map V.str)) ∧ ts.length ≤ 502 ∧ (∀ t ∈ ts, t.length ≤ 5000) ∧ (ts.reverse.map fun p : Str => p.cps.toList).flatten = (tx n).cps.toList ∧ Same H H', ?_, ?_⟩
      · rintro σ H4 ⟨rfl, ts, e4, hl, hb, et, s4⟩
        refine ⟨_, rfl, ?_⟩
        refine ⟨_, rfl, L, ts, rfl, e4, ?_, ?_⟩
        · exact joinOk (by simpa using hl) fun t ht => hb t (List.mem_reverse.mp ht)
        · have : Txt.join (Str.ofString "") ts.reverse = tx n := str_ext (by rw [join_cps]; exact et)
          rw [this]
          exact q H4 s4
      · have hcat : ((ps ++ [tx (r : Int)]).reverse.map fun p : Str => p.cps.toList).flatten = dg n.natAbs := by
          have := pz.shown hr
          rw [← this]
          show cat (ps ++ [tx (r : Int)]) = _
          rw [cat_snoc, tx_nat]
        have hbt : ∀ t ∈ ps ++ [tx (r : Int)], t.length ≤ 5000 := by
          intro t ht
          have h1 : t.length ≤ (((ps ++ [tx (r : Int)]).reverse.map fun p : Str => p.cps.toList).flatten).length := by
            refine flat_le ?_
            exact List.mem_reverse.mpr ht
          rw [hcat] at h1
          have h2 : (dg n.natAbs).length ≤ 4301 := by
            have := tx_len (big8 (n := (n.natAbs : Int)) (by rw [Int.natAbs_natCast]; exact z))
            rw [← len_toList, tx_nat] at this
            exact this
          omega
        refine ⟨_, rfl, _, _, rfl, rfl, _, rfl, ?_⟩
        refine iteD (fun h => ?_) (fun h => ?_)
        · refine ⟨_, rfl, tyL e3, ?_⟩
          refine appL e3 (by rw [List.length_map, List.length_append, List.length_singleton]; omega) fun H4 e4 s4 => ?_
          obtain ⟨k, hk⟩ : ∃ k : Nat, n = -((k + 1 : Nat) : Int) := ⟨(-n - 1).toNat, by omega⟩
          refine ⟨rfl, ps ++ [tx (r : Int)] ++ [Str.ofString "-"], by rw [List.map_append]; exact e4, by simp; omega, ?_, ?_, Same.thru hL s3 s4⟩
          · intro t ht
            rcases List.mem_append.mp ht with ht | ht
            · exact hbt t ht
            · rw [List.mem_singleton.mp ht]; decide
          · rw [List.reverse_append, List.map_append, List.flatten_append, hcat, hk, tx_neg]
            have : (-((k + 1 : Nat) : Int)).natAbs = k + 1 := by omega
            rw [this]
            rfl
        · refine ⟨rfl, ps ++ [tx (r : Int)], e3, by simp; omega, hbt, ?_, s3⟩
          rw [hcat]
          obtain ⟨k, hk⟩ := Int.eq_ofNat_of_zero_le (show 0 ≤ n by omega)
          rw [hk, Int.natAbs_natCast, tx_nat]
end
end Kw

set_option Elab.async false
set_option linter.all false
set_option maxRecDepth 100000
namespace Kw
open PySem L2 Mf Mt
/-! ### a fraction read -/
def rdF : List (Option Int) → Option Fr
  | [some n] => some (n, 1)
  | [some n, some d] => if (!decide (d = 1) && isf [some n, some d]) = true then some (n, d) else none
  | _ => none
def words (t : Str) : List Str := Txt.split t sl
def rdT (t : Str) : Option Fr := rdF ((words t).map rd)
@[irreducible] def sp_readf (C : Addr) : Sp := fun vs H Q E => ∃ t, vs = [.str t] ∧ t.length ≤ 10000 ∧ (rdT t = none → ∀ H', Same H H' → E (.ref C) none H') ∧ (∀ g, rdT t = some g → ∀ a H', H' a = some (.tup [.int g.1, .int g.2]) → Same H H' → Q (.ref a) H')
theorem sp_readf_i {C : Addr} {t : Str} {H : Hp} {Q : VK} {E : XK} (z : t.length ≤ 10000) (e : rdT t = none → ∀ H', Same H H' → E (.ref C) none H') (q : ∀ g, rdT t = some g → ∀ a H', H' a = some (.tup [.int g.1, .int g.2]) → Same H H' → Q (.ref a) H') : sp_readf C [.str t] H Q E := by
  unfold sp_readf; exact ⟨t, rfl, z, e, q⟩
theorem words_len (t : Str) : (words t).length ≤ t.length + 2 := PyProof.Rows.split_le t sl
theorem opts_of {ws : List Str} {ys : List V} (hl : ys.length = ws.length) (h : ∀ (i : Nat) (y : V), ys[i]? = some y → ∃ u, ws[i]? = some u ∧ y = optV (rd u)) : ys = (ws.map rd).map optV := by
  refine List.ext_getElem? fun i => ?_
  rw [List.getElem?_map, List.getElem?_map]
  cases q : ys[i]? with
  | none =>
    have : ws[i]? = none := by
      rw [List.getElem?_eq_none_iff] at q ⊢
      omega
    rw [this]; rfl
  | some y =>
    obtain ⟨u, h1, h2⟩ := h i y q
    rw [h1, h2]; rfl
section
variable {P : Program} {w : World} {K : PySem.W.Frag} {mg : Str → Option Value} {base : Heap} {c : Cl}
set_option maxHeartbeats 4000000 in
theorem ok_read_fraction {f : Addr} {fd : FuncData} (F : Fun K "read_fraction" "read_fraction" s_read_fraction f fd) (T : Txt K mg c) (F_read_whole : FnC CX0 P w K mg base 2 "read_whole" ["text"] sp_readw) (F_is_fraction : FnC CX0 P w K mg base 2 "is_fraction" ["thing"] sp_isf) :
    FnOk P w K mg base (CX1 P w) 3 f fd ["text"] (sp_readf c.NoFraction) := by
  refine F.okx sc_read_fraction (fun vs H Q E h => ?_) (fun cdv A outer s H vs Q E hr h hx hmd => ?_)
  · unfold sp_readf at h
    obtain ⟨n, rfl, _⟩ := h
    rfl
  · unfold sp_readf at h
    obtain ⟨t, rfl, z, he, q⟩ := h
    have hw := words_len t
    have hbl : ∀ u ∈ words t, u.length ≤ 20000 := fun u hu => Nat.le_trans (part_len hu) (by omega)
    refine ⟨_, (wss_cons (ws_setComp (i := 1) (CScope.of (psc := defScope s_read_fraction) (N := ["text", "numbers", "read"]) (N' := ["part"]) (js := []) (by decide +kernel) rfl rfl rfl) sc_read_fraction.nd rfl rfl (wi_list (we_bm PySem.F.plainAttrs_str PySem.F.slot_str_split PySem.F.type_str_split mt_split (we_v 0) (wa_k we_str wa_nil))) (fun _ _ _ _ => wts_nil) (fun _ _ _ _ => (we_fn F_read_whole (hr.mono (by decide)) (wa_k (we_v 0) wa_nil))))
      (wss_cons (ws_cut (ws_if (wt_cmp op_eq (we_cB cl_len (by rfl) T.b_len (by decide +kernel) (wa_k (we_v 1) wa_nil)) we_int (nomark _)) (wss_one (ws_expr (we_bm PySem.F.plainAttrs_list PySem.F.slot_list_append PySem.F.type_list_append mt_app (we_v 1) (wa_k we_int wa_nil)))) (wss_one (ws_if (wt_cmp op_eq (we_ix ix_seq (we_v 1) we_int (fun _ _ => rfl)) we_int (nomark _)) (wss_one (ws_raise T.x_NoFraction T.g_NoFraction rfl hmd (wa_k we_str wa_nil))) wss_nil))))
      (wss_cons (ws_set (i := 2) sc_read_fraction.nd rfl (Or.inl rfl) (we_cT call_tuple_of (by rfl) T.b_tuple (by decide +kernel) (wa_k (we_v 1) wa_nil)))
      (wss_cons (ws_if (wt_not (wt_val (we_fn F_is_fraction (hr.mono (by decide)) (wa_k (we_v 2) wa_nil)))) (wss_one (ws_raise T.x_NoFraction T.g_NoFraction rfl hmd (wa_k we_str wa_nil))) wss_nil)
      (wss_one (ws_ret (we_v 2))))))), ?_⟩
    refine ⟨_, rfl, rfl, ?_⟩
    refine rsplit (by decide) (line20 (by omega)) (line20 (show (words t).length ≤ 20000 by omega)) fun p1 H1 hp1 e1 s1 => ?_
    have e1 : H1 p1 = some (.lst ((words t).map V.str)) := e1
    refine ⟨p1, rfl, ⟨_, SqL.of e1⟩, ?_⟩
    refine comp_map (xs := (words t).map V.str) (fun i y => ∃ u, (words t)[i]? = some u ∧ y = optV (rd u)) (by rw [List.length_map]; omega) (SqL.of e1) ?_ ?_
    · intro i x H' Q' hx s' k
      rw [List.getElem?_map] at hx
      cases q3 : (words t)[i]? with
      | none => rw [q3] at hx; cases hx
      | some u =>
        rw [q3] at hx
        cases hx
        refine ⟨_, rfl, ?_⟩
        exact sp_readw_i (hbl u (List.mem_of_getElem? q3)) fun H5 s5 => k _ H5 s5 ⟨u, q3, rfl⟩
    · intro D ys H2 hD e2 s2 hl hy
      have ey := opts_of (by rw [hl, List.length_map]) hy
      subst ey
      have S2 := s1.trans s2
      generalize ho : (words t).map rd = os at e2
      have hos : rdT t = rdF os := by unfold rdT; rw [ho]
      have hlo : os.length = (words t).length := by rw [← ho, List.length_map]
      have hne : os ≠ [] := fun e => by
        rw [e] at hlo
        exact split_ne t (List.length_eq_zero_iff.mp hlo.symm)
      refine ⟨fun σ H' => ∃ os2 : List (Option Int), σ = [some (.str t), some (.ref D), none] ∧ H' D = some (.lst (os2.map optV)) ∧ Same H H' ∧ os2.length ≤ 10010 ∧ (isf os2 = true → ∃ n d, os2 = [some n, some d] ∧ rdT t = some (n, d)) ∧ (isf os2 = false → rdT t = none), ?_, ?_⟩
      · rintro σ H3 ⟨os2, rfl, e3, s3, hl3, h1, h2⟩
        refine ⟨_, rfl, D, _, rfl, .inl ⟨SqL.of e3, fun l hl => ?_⟩⟩
        have e4 := upd_same (H := H3) (a := l) (o := .tup (os2.map optV))
        have s4 := Same.upd (o := .tup (os2.map optV)) hl
        generalize upd H3 l (.tup (os2.map optV)) = H4 at e4 s4 ⊢
        refine ⟨_, rfl, ?_⟩
        refine sp_isf_i e4 (by omega) ?_
        refine ⟨_, rfl, ?_⟩
        cases hi : isf os2 with
        | true =>
          obtain ⟨n, d, eo, er⟩ := h1 hi
          refine iteF ?_
          refine ⟨_, rfl, ?_⟩
          rw [eo] at e4
          exact q _ er l H4 e4 (s3.trans s4)
        | false =>
          refine iteT ?_
          exact ⟨by decide, he (h2 hi) H4 (s3.trans s4)⟩
      · refine ⟨_, rfl, ?_⟩
        refine rlL e2 ?_
        refine ⟨rfl, _, rfl, ?_⟩
        rw [List.length_map]
        match os, hne with
        | [o], _ =>
          refine iteT ?_
          refine ⟨_, rfl, tyL e2, ?_⟩
          refine appL e2 (by simp) fun H3 e3 s3 => ?_
          refine ⟨[o, some 1], rfl, e3, s1.trans (Same.thru hD s2 s3), by simp, ?_, ?_⟩
          · intro hi
            cases o with
            | none => cases hi
            | some n => exact ⟨n, 1, rfl, by rw [hos]; rfl⟩
          · intro hi
            cases o with
            | none => rw [hos]; rfl
            | some n =>
              have : isf [some n, some 1] = true := by
                show (decide ((1 : Int) ≤ 1) && decide (Int.gcd n 1 = 1)) = true
                rw [Int.gcd_one_right]
                rfl
              rw [this] at hi
              cases hi
        | o1 :: o2 :: r, _ =>
          have hn1 : ¬ ((o1 :: o2 :: r).length : Int) = 1 := by simp; omega
          rw [decide_eq_false (fun x => hn1 (by injection x))]
          refine iteF ?_
          refine ⟨_, rfl, ?_⟩
          refine ixL e2 (v := optV o2) (atI_nat (j := 1) rfl) ?_
          have fin : o2 ≠ some 1 → ∃ os2 : List (Option Int), [some (V.str t), some (V.ref D), none] = [some (.str t), some (.ref D), none] ∧ H2 D = some (.lst (os2.map optV)) ∧ Same H H2 ∧ os2.length ≤ 10010 ∧ (isf os2 = true → ∃ n d, os2 = [some n, some d] ∧ rdT t = some (n, d)) ∧ (isf os2 = false → rdT t = none) := by
            intro h2
            refine ⟨o1 :: o2 :: r, rfl, e2, S2, by rw [hlo]; omega, ?_, ?_⟩
            · intro hi
              cases o1 with
              | none => cases hi
              | some n =>
                cases o2 with
                | none => cases hi
                | some d =>
                  cases r with
                  | cons _ _ => cases hi
                  | nil =>
                    refine ⟨n, d, rfl, ?_⟩
                    rw [hos]
                    show (if (!decide (d = 1) && isf [some n, some d]) = true then some (n, d) else none) = _
                    rw [hi, decide_eq_false (fun x => h2 (by rw [x]))]
                    rfl
            · intro hi
              rw [hos]
              cases o1 with
              | none => cases r <;> rfl
              | some n =>
                cases o2 with
                | none => cases r <;> rfl
                | some d =>
                  cases r with
                  | cons _ _ => rfl
                  | nil =>
                    show (if (!decide (d = 1) && isf [some n, some d]) = true then some (n, d) else none) = _
                    rw [hi, Bool.and_false]
                    rfl
          have bad : o2 = some 1 → rdT t = none := by
            intro h2
            rw [hos, h2]
            cases o1 with
            | none => cases r <;> rfl
            | some n =>
              cases r with
              | cons _ _ => rfl
              | nil => rfl
          cases o2 with
          | none =>
            refine ⟨rfl, _, rfl, ?_⟩
            refine iteF ?_
            exact fin (by simp)
          | some d =>
            refine ⟨rfl, _, rfl, ?_⟩
            refine iteD (fun h => ?_) (fun h => ?_)
            · have hd : d = 1 := by injection h
              exact ⟨by decide, he (bad (by rw [hd])) H2 S2⟩
            · exact fin (fun x => h (by injection x with x; rw [x]; rfl))
end
end Kw

set_option Elab.async false
set_option linter.all false
set_option maxRecDepth 100000
namespace Kw
open PySem L2 Mf Mt
def sgD (l : List Nat) : PyData := .list (l.map fun x => PyData.str ⟨#[x]⟩)
theorem sg_rep {H : Hp} : ∀ l : List Nat, RepL H (l.map fun x => PyData.str ⟨#[x]⟩) (l.map fun x => V.str ⟨#[x]⟩)
  | [] => RepL.nil
  | _ :: r => RepL.cons (Rep.str _) (sg_rep r)
def Low (t : Str) : Prop := ∀ x ∈ t.cps.toList, x < 128
theorem one_ok {x : Nat} (h : x < 128) : PyData.canLay0 (.str ⟨#[x]⟩) = true := by
  have : ∀ y : Nat, y < 128 → PyData.canLay0 (.str ⟨#[y]⟩) = true := by decide +kernel
  exact this x h
theorem sg_lay : ∀ l : List Nat, (∀ x ∈ l, x < 128) → PyData.canLayAll0 (l.map fun x => PyData.str ⟨#[x]⟩) = true
  | [], _ => rfl
  | x :: r, h => by
    show (PyData.canLay0 (.str ⟨#[x]⟩) && PyData.canLayAll0 (r.map fun x => PyData.str ⟨#[x]⟩)) = true
    rw [sg_lay r (fun y hy => h y (List.mem_cons_of_mem _ hy)), one_ok (h x List.mem_cons_self)]
    rfl
theorem sg_depth : ∀ l : List Nat, PyData.depthAll (l.map fun x => PyData.str ⟨#[x]⟩) = 0
  | [] => rfl
  | x :: r => by
    show max 0 (PyData.depthAll (r.map fun x => PyData.str ⟨#[x]⟩)) = 0
    rw [sg_depth r]
    rfl
theorem sg_shaped (l : List Nat) (h : ∀ x ∈ l, x < 128) : SeqAt.shaped (sgD l) = true := by
  unfold SeqAt.shaped
  rw [Bool.and_eq_true]
  refine ⟨sg_lay l h, decide_eq_true ?_⟩
  show PyData.depthAll (l.map fun x => PyData.str ⟨#[x]⟩) + 1 ≤ 64
  rw [sg_depth]
  decide
theorem sg_eqv (l : List Nat) : PyData.eqv (sgD l) (.list []) = l.isEmpty := by
  cases l <;> rfl
@[irreducible] def sp_wr : Sp := fun vs H Q _ => ∃ t, vs = [.str t] ∧ t.length ≤ 4300 ∧ Low t ∧ ∀ H', Same H H' → Q (optV ((wr t).map Int.ofNat)) H'
theorem sp_wr_i {t : Str} {H : Hp} {Q : VK} {E : XK} (z : t.length ≤ 4300) (lo : Low t) (q : ∀ H', Same H H' → Q (optV ((wr t).map Int.ofNat)) H') : sp_wr [.str t] H Q E := by unfold sp_wr; exact ⟨t, rfl, z, lo, q⟩
section
variable {P : Program} {w : World} {K : PySem.W.Frag} {mg : Str → Option Value} {base : Heap} {c : Cl}
set_option maxHeartbeats 4000000 in
theorem ok__law_written {f : Addr} {fd : FuncData} (F : Fun K "_law_written" "_law_written" s__law_written f fd) (T : Txt K mg c) : FnOk P w K mg base CX0 1 f fd ["_law_text"] sp_wr := by
  refine F.okw sc__law_written (fun vs H Q E h => ?_) (fun cdv A outer s H vs Q E hr h => ?_)
  · unfold sp_wr at h
    obtain ⟨n, rfl, _⟩ := h
    rfl
  · unfold sp_wr at h
    obtain ⟨t, rfl, z, lo, q⟩ := h
    refine ⟨_, (wss_cons (ws_if (wt_w (ww_or (wt_cmp op_eq (we_v 0) we_str (nomark _)) (ww_or (wt_cmp (op_neD hr.units) (we_comp (CScope.of (psc := defScope s__law_written) (N := ["_law_text"]) (N' := ["_law_sign"]) (js := []) (by decide +kernel) rfl rfl rfl) (wi_str (we_v 0)) (fun _ _ _ _ => wts_one (wt_cmp op_notin_str (we_v 0) we_str (by with_unfolding_all rfl))) (fun _ _ _ _ => (we_v 0))) (we_lst wa_nil) (nomark _)) (ww_or1 (wt_w (ww_and (wt_cmp op_eq (we_ix ix_seq (we_v 0) we_int (fun _ _ => rfl)) we_str (nomark _)) (ww_and1 (wt_cmp op_ne (we_v 0) we_str (nomark _))))))))) (wss_one (ws_ret we_non)) wss_nil)
      (wss_one (ws_ret (we_cT (cl_intT T.nd) (by rfl) T.b_int (by decide +kernel) (wa_k (we_v 0) wa_nil))))), ?_⟩
    refine ⟨_, rfl, rfl, _, rfl, ?_⟩
    have no : ∀ H', Same H H' → wrB t = false → Q V.non H' := fun H' s' hb => by
      have := q H' s'
      unfold wr at this
      rw [hb] at this
      exact this
    by_cases h0 : t.cps.toList = []
    · have : t = Str.ofString "" := str_ext h0
      rw [decide_eq_true (show V.str t = V.str (Str.ofString "") by rw [this])]
      refine iteT ?_
      refine iteT ?_
      exact no H (Same.refl _) (by unfold wrB; rw [h0]; rfl)
    · rw [decide_eq_false (fun x => h0 (by injection x with x; rw [x]; rfl))]
      refine iteF ?_
      refine ⟨_, rfl, _, rfl, ?_⟩
      refine comp_str (x := t) (fun x => !dig x) (fun x => V.str ⟨#[x]⟩) (by omega) (fun x H' Q' _ q => ?_) (fun x H' Q' _ q => ⟨_, rfl, q⟩) fun D H1 hD e1 s1 => ?_
      · refine ⟨_, rfl, _, _, rfl, rfl, ?_⟩
        rw [in_figs]
        exact ⟨_, rfl, q⟩
      · refine nwL (by show 0 ≤ 64; decide) fun q2 H2 hq2 e2 s2 => ?_
        refine reD (Rep.lst (s2 _ _ e1) (sg_rep _)) (Rep.lst e2 RepL.nil) (sg_shaped _ (fun x hx => lo x (List.mem_filter.mp hx).1)) rfl ?_
        have S2 := s1.trans s2
        have ee : PyData.eqv (PyData.list ((t.cps.toList.filter fun x => !dig x).map fun x => PyData.str ⟨#[x]⟩)) (.list []) = figs t := by
          rw [show PyData.list ((t.cps.toList.filter fun x => !dig x).map fun x => PyData.str ⟨#[x]⟩) = sgD (t.cps.toList.filter fun x => !dig x) from rfl, sg_eqv]
          unfold figs
          rw [Bool.eq_iff_iff, List.isEmpty_iff, List.filter_eq_nil_iff, List.all_eq_true]
          refine ⟨fun h x hx => by simpa using h x hx, fun h x hx => by simpa using h x hx⟩
        rw [ee]
        refine ⟨_, rfl, ?_⟩
        cases hf : figs t with
        | false =>
          refine iteT ?_
          refine iteT ?_
          exact no H2 S2 (by unfold wrB; rw [hf, Bool.and_false, Bool.false_and])
        | true =>
          refine iteF ?_
          obtain ⟨x0, r0, ec⟩ : ∃ x0 r0, t.cps.toList = x0 :: r0 := by
            cases q3 : t.cps.toList with
            | nil => exact absurd q3 h0
            | cons x y => exact ⟨x, y, rfl⟩
          refine ⟨_, rfl, ?_⟩
          refine .inr (.inr ⟨t, 0, x0, rfl, rfl, line20 (by omega), by rw [ec]; exact atI_nat (j := 0) rfl, ?_⟩)
          refine ⟨rfl, _, rfl, ?_⟩
          have go : wrB t = true → tRet (tCB rIntT (tCons (tVar 0) tNil)) { nx := fun x H' => Q V.non H', rt := Q } [some (.str t)] H2 := by
            intro hb
            refine ⟨_, rfl, ?_⟩
            have q2 := q H2 S2
            unfold wr at q2
            rw [if_pos hb] at q2
            exact rintT (fun x hx => .inr (figs_all hf x hx)) (PySem.intText_digits (figs_all hf) h0 z) (line20 (by omega)) q2
          have hb : wrB t = !(decide (x0 = 48) && !decide (t = zero)) := by
            unfold wrB
            rw [hf, ec]
            simp
          by_cases c1 : x0 = 48
          · rw [decide_eq_true c1] at hb
            rw [decide_eq_true (show V.str ⟨#[x0]⟩ = V.str (Str.ofString "0") by rw [c1]; rfl)]
            refine iteT ?_
            refine ⟨_, rfl, rfl, _, rfl, ?_⟩
            by_cases c2 : t = zero
            · rw [decide_eq_true c2] at hb
              refine iteNS (by rw [c2]; rfl) ?_
              exact go hb
            · rw [decide_eq_false c2] at hb
              refine iteNE (fun z => c2 z) ?_
              exact no H2 S2 hb
          · rw [decide_eq_false c1] at hb
            have ne : ¬ V.str ⟨#[x0]⟩ = V.str (Str.ofString "0") := fun x => c1 (by
              injection x with x
              have h2 : [x0] = zero.cps.toList := congrArg (fun y : Str => y.cps.toList) x
              rw [zero_cps] at h2
              injection h2)
            rw [decide_eq_false ne]
            refine iteF ?_
            refine iteF ?_
            exact go hb
end
@[irreducible] def sp_due : Sp := fun vs H Q _ => ∃ t, vs = [.str t] ∧ t.length ≤ 2500 ∧ Low t ∧ (rdT t = none → ∀ H', Same H H' → Q .non H') ∧ (∀ g, rdT t = some g → ∀ a H', H' a = some (.tup [.int g.1, .int g.2]) → Same H H' → Q (.ref a) H')
theorem sp_due_i {t : Str} {H : Hp} {Q : VK} {E : XK} (z : t.length ≤ 2500) (lo : Low t) (e : rdT t = none → ∀ H', Same H H' → Q .non H') (q : ∀ g, rdT t = some g → ∀ a H', H' a = some (.tup [.int g.1, .int g.2]) → Same H H' → Q (.ref a) H') : sp_due [.str t] H Q E := by
  unfold sp_due; exact ⟨t, rfl, z, lo, e, q⟩
theorem part_low {t p : Str} (lo : Low t) (h : p ∈ words t) : Low p := by
  have hj := StrLaws.join_split t sl
  intro x hx
  refine lo x ?_
  rw [← hj]
  have : ∀ l : List Str, p ∈ l → x ∈ (Str.join sl l).cps.toList := by
    intro l
    induction l with
    | nil => intro h; cases h
    | cons a r ih =>
      intro h
      cases r with
      | nil =>
        rcases List.mem_cons.mp h with rfl | h
        · exact hx
        · cases h
      | cons b r =>
        rw [join2]
        rcases List.mem_cons.mp h with rfl | h
        · exact List.mem_append_left _ hx
        · exact List.mem_append_right _ (List.mem_cons_of_mem _ (ih h))
  exact this _ h
theorem dv_lt : ∀ {l : List Nat}, NumText.AllDigits l → NumText.digitsVal l < 10 ^ l.length
  | [], _ => by decide
  | x :: r, h => by
    have h1 := dv_lt h.tail
    have h2 := h.head
    have e : NumText.digitsVal (x :: r) = (x - 48) * 10 ^ r.length + NumText.digitsVal r := by
      have := dv_from r (0 * 10 + (x - 48))
      have e2 : NumText.digitsVal (x :: r) = List.foldl (fun acc c => acc * 10 + (c - 48)) (0 * 10 + (x - 48)) r := rfl
      rw [e2, this, Nat.zero_mul, Nat.zero_add]
    rw [e, List.length_cons, Nat.pow_succ]
    have h3 : (x - 48) * 10 ^ r.length ≤ 9 * 10 ^ r.length := Nat.mul_le_mul_right _ (by omega)
    omega
theorem val_lt {t : Str} (h : figs t = true) (z : t.length ≤ 2500) : ((val t : Nat) : Int).natAbs < 2 ^ 9000 := by
  rw [Int.natAbs_natCast]
  have h1 : val t < 10 ^ t.length := by
    have := dv_lt (figs_all h)
    rw [len_toList] at this
    exact this
  have h2 : 10 ^ t.length ≤ 10 ^ 2500 := Nat.pow_le_pow_right (by decide) z
  have h3 : 10 ^ 2500 ≤ 2 ^ 9000 := by decide +kernel
  exact Nat.lt_of_lt_of_le h1 (Nat.le_trans h2 h3)
theorem wr_some {t : Str} {m : Nat} (h : wr t = some m) : figs t = true ∧ val t = m ∧ wrB t = true := by
  unfold wr at h
  split at h
  · rename_i hb
    have hb' := hb
    unfold wrB at hb'
    simp only [Bool.and_eq_true] at hb'
    injection h with h
    exact ⟨hb'.1.2, h, hb⟩
  · cases h
theorem eqv_fr (f g : Fr) : PyData.eqv (frD f) (frD g) = decide (f = g) := by
  obtain ⟨a, b⟩ := f
  obtain ⟨x, y⟩ := g
  simp only [PyData.eqv, PyData.eqvAll, Bool.and_true]
  rw [Bool.eq_iff_iff]
  simp [Prod.ext_iff]
theorem lw_self {n d : Int} (h : 0 < d) : decide (lw n d = (n, d)) = decide (Int.gcd n d = 1) := by
  refine decide_eq_decide.mpr ⟨fun e => ?_, fun e => ?_⟩
  · have := (lw_low (n := n) h).low
    rw [e] at this
    exact this
  · unfold lw
    rw [e]
    simp
theorem below_is (t : Str) : decide (V.str (Txt.slice t none (some 1)) = V.str (Str.ofString "-")) = neg t := by
  unfold neg
  refine decide_eq_decide.mpr ?_
  have em : (Str.ofString "-").cps.toList = [45] := by decide +kernel
  cases q : t.cps.toList with
  | nil =>
    have : t = ⟨#[]⟩ := str_ext q
    subst this
    have e : Txt.slice ⟨#[]⟩ none (some 1) = ⟨#[]⟩ := by decide +kernel
    rw [e]
    refine ⟨fun z => ?_, fun z => by cases z⟩
    injection z with z
    have h2 : ([] : List Nat) = (Str.ofString "-").cps.toList := congrArg (fun y : Str => y.cps.toList) z
    rw [em] at h2
    cases h2
  | cons x r =>
    have hl : (1 : Int) ≤ t.length := by rw [← len_toList, q]; simp; omega
    have e := slice_to (t := t) (j := 1) (by decide) hl
    rw [q] at e
    refine ⟨fun z => ?_, fun z => ?_⟩
    · injection z with z
      rw [z, em] at e
      have : [45] = [x] := e
      injection this with this
      rw [this]; rfl
    · have hx : x = 45 := by injection z
      exact congrArg V.str (str_ext (by rw [e, em, hx]; rfl))
theorem fg_slice (t : Str) : Txt.slice t (some (if neg t = true then 1 else 0)) none = fg t := by
  refine str_ext ?_
  by_cases h : neg t = true
  · rw [if_pos h]
    have hh : t.cps.toList.head? = some 45 := of_decide_eq_true h
    have hl : (1 : Int) ≤ t.length := by
      rw [← len_toList]
      cases q : t.cps.toList with
      | nil => rw [q] at hh; cases hh
      | cons x r => simp; omega
    rw [slice_from (by decide) hl]
    unfold fg
    rw [if_pos h]
    rfl
  · rw [if_neg h, slice_from (by decide) (by omega)]
    unfold fg
    rw [if_neg h]
    rfl
theorem low_fg {t : Str} (lo : Low t) : Low (fg t) := by
  intro x hx
  unfold fg at hx
  split at hx
  · exact lo x (List.mem_of_mem_drop hx)
  · exact lo x hx
section
variable {P : Program} {w : World} {K : PySem.W.Frag} {mg : Str → Option Value} {base : Heap} {c : Cl}
set_option maxHeartbeats 4000000 in
theorem ok__law_due {f : Addr} {fd : FuncData} (F : Fun K "_law_due" "_law_due" s__law_due f fd) (T : Txt K mg c) (F__law_written : FnC CX0 P w K mg base 1 "_law_written" ["_law_text"] sp_wr) (F__law_low : FnC CX0 P w K mg base 1 "_law_low" ["_law_n", "_law_d"] sp_low) : FnOk P w K mg base CX0 2 f fd ["_law_text"] sp_due := by
  refine F.okw sc__law_due (fun vs H Q E h => ?_) (fun cdv A outer s H vs Q E hr h => ?_)
  · unfold sp_due at h
    obtain ⟨n, rfl, _⟩ := h
    rfl
  · unfold sp_due at h
    obtain ⟨t, rfl, z, lo, he, q⟩ := h
    have hw := words_len t
    refine ⟨_, (wss_cons (ws_set (i := 1) sc__law_due.nd rfl (Or.inl rfl) (we_bm PySem.F.plainAttrs_str PySem.F.slot_str_split PySem.F.type_str_split mt_split (we_v 0) (wa_k we_str wa_nil)))
      (wss_cons (ws_set (i := 2) sc__law_due.nd rfl (Or.inl rfl) (we_cmp op_eq (we_slice sl_str (we_ix ix_seq (we_v 1) we_int (fun _ _ => rfl)) wo_none (wo_some we_int)) we_str (nomark _)))
      (wss_cons (ws_set (i := 3) sc__law_due.nd rfl (Or.inl rfl) (we_fn F__law_written (hr.mono (by decide)) (wa_k (we_slice sl_str (we_ix ix_seq (we_v 1) we_int (fun _ _ => rfl)) (wo_some (we_cT call_int1 (by rfl) T.b_int (by decide +kernel) (wa_k (we_v 2) wa_nil))) wo_none) wa_nil)))
      (wss_cons (ws_cut (ws_if (wt_w (ww_or (wt_cmp op_gt (we_cB cl_len (by rfl) T.b_len (by decide +kernel) (wa_k (we_v 1) wa_nil)) we_int (nomark _)) (ww_or (wt_cmp op_isN (we_v 3) we_non (nomark _)) (ww_or1 (wt_w (ww_and (wt_val (we_v 2)) (ww_and1 (wt_cmp op_eq (we_v 3) we_int (nomark _))))))))) (wss_one (ws_ret we_non)) wss_nil))
      (wss_cons (ws_set (i := 4) sc__law_due.nd rfl (Or.inl rfl) we_int)
      (wss_cons (ws_cut (ws_if (wt_cmp op_eq (we_cB cl_len (by rfl) T.b_len (by decide +kernel) (wa_k (we_v 1) wa_nil)) we_int (nomark _)) (wss_cons (ws_set (i := 4) sc__law_due.nd rfl (Or.inl rfl) (we_fn F__law_written (hr.mono (by decide)) (wa_k (we_ix ix_seq (we_v 1) we_int (fun _ _ => rfl)) wa_nil)))
      (wss_one (ws_if (wt_w (ww_or (wt_cmp op_isN (we_v 4) we_non (nomark _)) (ww_or1 (wt_cmp op_lt (we_v 4) we_int (nomark _))))) (wss_one (ws_ret we_non)) wss_nil))) wss_nil))
      (wss_cons (ws_set (i := 5) sc__law_due.nd rfl (Or.inl rfl) (we_tup (wa_k (we_ifExp (wt_val (we_v 2)) (we_op op_sub we_int (we_v 3)) (we_v 3)) (wa_k (we_v 4) wa_nil))))
      (wss_one (ws_ret (we_ifExp (wt_cmp (op_eqD hr.units) (we_fn F__law_low (hr.mono (by decide)) (wa_k (we_ix ix_seq (we_v 5) we_int (fun _ _ => rfl)) (wa_k (we_v 4) wa_nil))) (we_v 5) (nomark _)) (we_v 5) we_non)))))))))), ?_⟩
    refine ⟨_, rfl, rfl, ?_⟩
    refine rsplit (by decide) (line20 (by omega)) (line20 (show (words t).length ≤ 20000 by omega)) fun p1 H1 hp1 e1 s1 => ?_
    have e1 : H1 p1 = some (.lst ((words t).map V.str)) := e1
    have hbl : ∀ u ∈ words t, u.length ≤ 2500 := fun u hu => Nat.le_trans (part_len hu) z
    have hbw : ∀ u ∈ words t, Low u := fun u hu => part_low lo hu
    have hrd : rdT t = rdF ((words t).map rd) := rfl
    have hne : words t ≠ [] := split_ne t
    generalize words t = ws at e1 hbl hbw hrd hw hne
    obtain ⟨w0, wr', rfl⟩ : ∃ w0 wr', ws = w0 :: wr' := by
      cases ws with
      | nil => exact absurd rfl hne
      | cons a b => exact ⟨a, b, rfl⟩
    have l0 := hbl w0 List.mem_cons_self
    have lo0 := hbw w0 List.mem_cons_self
    refine ⟨_, rfl, ?_⟩
    refine ixL e1 (v := .str w0) (atI_nat (j := 0) rfl) ?_
    refine ⟨_, rfl, w0, rfl, line20 (by omega), ?_⟩
    refine ⟨rfl, ?_⟩
    rw [below_is]
    refine ⟨_, rfl, ?_⟩
    refine ixL e1 (v := .str w0) (atI_nat (j := 0) rfl) ?_
    refine ⟨_, rfl, .inr ⟨_, rfl, ?_⟩⟩
    refine ⟨_, rfl, w0, rfl, line20 (by omega), ?_⟩
    rw [fg_slice]
    have lf := fg_len w0
    refine sp_wr_i (by omega) (low_fg lo0) fun H2 s2 => ?_
    have S2 := s1.trans s2
    have e2 := s2 _ _ e1
    refine ⟨fun σ H' => ∃ m : Nat, σ = [some (.str t), some (.ref p1), some (.bl (neg w0)), some (.int m), none, none] ∧ H' = H2 ∧ wr'.length ≤ 1 ∧ rd w0 = some (if neg w0 = true then -(m : Int) else m), ?_, ?_⟩
    · rintro σ H3 ⟨m, rfl, rfl, hl, hn0⟩
      refine ⟨fun σ H' => ∃ d : Int, σ = [some (.str t), some (.ref p1), some (.bl (neg w0)), some (.int m), some (.int d), none] ∧ Same H H' ∧ 0 < d ∧ d.natAbs < 2 ^ 9000 ∧ rdT t = if Int.gcd (if neg w0 = true then -(m : Int) else m) d = 1 then some (if neg w0 = true then -(m : Int) else m, d) else none, ?_, ?_⟩
      · rintro σ H4 ⟨d, rfl, s4, hd, hdz, er⟩
        refine ⟨_, rfl, _, rfl, ?_⟩
        cases hng : neg w0 with
        | true =>
          rw [hng] at er
          simp only [if_true] at er
          refine iteT ?_
          refine ⟨_, rfl, _, _, rfl, rfl, ?_⟩
          refine ⟨_, rfl, ?_⟩
          rw [show (fun i j : Int => V.int (i - j)) 0 (m : Int) = V.int (-(m : Int)) by show V.int (0 - (m : Int)) = _; rw [Int.zero_sub]]
          refine nwT (by show 2 ≤ 64; decide) fun q5 H5 hq5 e5 s5 => ?_
          refine ⟨_, rfl, ?_⟩
          refine ixT e5 rfl ?_
          refine ⟨_, rfl, ?_⟩
          refine sp_low_i hd hdz ?_
          intro q6 H6 hq6 e6 s6
          refine ⟨_, rfl, ?_⟩
          refine reD (frD_of e6) (frD_of (f := (-(m : Int), d)) (s6 _ _ e5)) rfl rfl ?_
          rw [eqv_fr, lw_self hd]
          refine ⟨_, rfl, ?_⟩
          by_cases hg : Int.gcd (-(m : Int)) d = 1
          · rw [decide_eq_true hg]
            rw [if_pos hg] at er
            refine iteT ?_
            refine ⟨_, rfl, ?_⟩
            exact q _ er q5 H6 (s6 _ _ e5) (s4.trans (s5.trans s6))
          · rw [decide_eq_false hg]
            rw [if_neg hg] at er
            refine iteF ?_
            exact he er H6 (s4.trans (s5.trans s6))
        | false =>
          rw [hng] at er
          simp only [Bool.false_eq_true, if_false] at er
          refine iteF ?_
          refine ⟨_, rfl, ?_⟩
          refine ⟨_, rfl, ?_⟩
          refine nwT (by show 2 ≤ 64; decide) fun q5 H5 hq5 e5 s5 => ?_
          refine ⟨_, rfl, ?_⟩
          refine ixT e5 rfl ?_
          refine ⟨_, rfl, ?_⟩
          refine sp_low_i hd hdz ?_
          intro q6 H6 hq6 e6 s6
          refine ⟨_, rfl, ?_⟩
          refine reD (frD_of e6) (frD_of (f := ((m : Int), d)) (s6 _ _ e5)) rfl rfl ?_
          rw [eqv_fr, lw_self hd]
          refine ⟨_, rfl, ?_⟩
          by_cases hg : Int.gcd ((m : Int)) d = 1
          · rw [decide_eq_true hg]
            rw [if_pos hg] at er
            refine iteT ?_
            refine ⟨_, rfl, ?_⟩
            exact q _ er q5 H6 (s6 _ _ e5) (s4.trans (s5.trans s6))
          · rw [decide_eq_false hg]
            rw [if_neg hg] at er
            refine iteF ?_
            exact he er H6 (s4.trans (s5.trans s6))
      · refine ⟨_, rfl, ?_⟩
        refine rlL e2 ?_
        refine ⟨rfl, _, rfl, ?_⟩
        rw [List.length_map]
        match wr', hl with
        | [], _ =>
          refine iteF ?_
          refine ⟨1, rfl, S2, by decide, by decide, ?_⟩
          rw [hrd, Int.gcd_one_right, if_pos rfl]
          show rdF [rd w0] = _
          rw [hn0]
          rfl
        | [w1], _ =>
          refine iteT ?_
          have l1 := hbl w1 (by simp)
          have lo1 := hbw w1 (by simp)
          have hrd : rdT t = rdF [rd w0, rd w1] := hrd
          rw [hn0] at hrd
          refine ⟨_, rfl, ?_⟩
          refine ixL e2 (v := .str w1) (atI_nat (j := 1) rfl) ?_
          refine sp_wr_i (by omega) lo1 fun H3 s3 => ?_
          refine ⟨_, rfl, rfl, _, rfl, ?_⟩
          generalize hnn : (if neg w0 = true then -(m : Int) else (m : Int)) = n0 at hrd
          cases hw1 : wr w1 with
          | none =>
            refine iteT ?_
            refine iteT ?_
            refine he ?_ H3 (S2.trans s3)
            rw [hrd]
            cases hng : neg w1 with
            | false =>
              rw [rd_plain hng (by omega), hw1]
              rfl
            | true =>
              rw [rd_neg hng (by omega)]
              cases wr (fg w1) with
              | none => rfl
              | some k =>
                cases k with
                | zero => rfl
                | succ k =>
                  show (if (!decide (-((k + 1 : Nat) : Int) = 1) && (decide ((1 : Int) ≤ -((k + 1 : Nat) : Int)) && decide (Int.gcd n0 (-((k + 1 : Nat) : Int)) = 1))) = true then some (n0, -((k + 1 : Nat) : Int)) else none) = none
                  rw [decide_eq_false (show ¬ (1 : Int) ≤ -((k + 1 : Nat) : Int) by omega)]
                  simp
          | some k =>
            refine iteF ?_
            have hng : neg w1 = false := by
              cases hng : neg w1 with
              | false => rfl
              | true =>
                exfalso
                have hh : w1.cps.toList.head? = some 45 := of_decide_eq_true hng
                have hf := (wr_some hw1).1
                cases q4 : w1.cps.toList with
                | nil => rw [q4] at hh; cases hh
                | cons x r =>
                  rw [q4] at hh
                  have := figs_all hf x (by rw [q4]; exact List.mem_cons_self)
                  injection hh with hh
                  omega
            rw [rd_plain hng (by omega), hw1] at hrd
            have hrd : rdT t = if (!decide ((k : Int) = 1) && (decide ((1 : Int) ≤ (k : Int)) && decide (Int.gcd n0 (k : Int) = 1))) = true then some (n0, (k : Int)) else none := hrd
            refine ⟨_, rfl, _, _, rfl, rfl, _, rfl, ?_⟩
            refine iteD (fun h => ?_) (fun h => ?_)
            · refine he ?_ H3 (S2.trans s3)
              rw [hrd]
              have hk : (k : Int) < 2 := h
              have : k = 0 ∨ k = 1 := by omega
              rcases this with rfl | rfl <;> simp
            · have hk : ¬ (k : Int) < 2 := h
              refine ⟨(k : Int), rfl, S2.trans s3, by omega, ?_, ?_⟩
              · have h2 := wr_some hw1
                rw [← h2.2.1]
                exact val_lt h2.1 (by omega)
              · rw [hrd, decide_eq_false (show ¬ (k : Int) = 1 by omega), decide_eq_true (show (1 : Int) ≤ (k : Int) by omega)]
                simp
    · refine ⟨_, rfl, ?_⟩
      refine rlL e2 ?_
      refine ⟨_, _, rfl, rfl, _, rfl, ?_⟩
      rw [List.length_map]
      by_cases hl : wr'.length ≤ 1
      · rw [decide_eq_false (show ¬ (2 : Int) < ((w0 :: wr').length : Nat) by rw [List.length_cons]; omega)]
        refine iteF ?_
        refine ⟨_, rfl, rfl, _, rfl, ?_⟩
        have none0 : rd w0 = none → rdT t = none := by
          intro h
          rw [hrd]
          match wr', hl with
          | [], _ => show rdF [rd w0] = none; rw [h]; rfl
          | [w1], _ => show rdF [rd w0, rd w1] = none; rw [h]; rfl
        cases hng : neg w0 with
        | true =>
          have r0 := rd_neg hng (by omega)
          cases hw0 : wr (fg w0) with
          | none =>
            rw [hw0] at r0
            refine iteT ?_
            refine iteT ?_
            exact he (none0 r0) H2 S2
          | some m =>
            rw [hw0] at r0
            refine iteF ?_
            refine ⟨_, rfl, _, rfl, ?_⟩
            refine iteT ?_
            refine ⟨_, rfl, rfl, _, rfl, ?_⟩
            cases m with
            | zero =>
              refine iteT ?_
              exact he (none0 r0) H2 S2
            | succ m =>
              rw [decide_eq_false (show ¬ optV (Option.map Int.ofNat (some (m + 1))) = V.int 0 from fun x => by injection x with x; cases x)]
              refine iteF ?_
              exact ⟨m + 1, rfl, rfl, hl, r0⟩
        | false =>
          have r0 := rd_plain hng (by omega)
          have ef : fg w0 = w0 := by unfold fg; rw [hng]; rfl
          rw [ef]
          cases hw0 : wr w0 with
          | none =>
            rw [hw0] at r0
            refine iteT ?_
            refine iteT ?_
            exact he (none0 r0) H2 S2
          | some m =>
            rw [hw0] at r0
            refine iteF ?_
            refine ⟨_, rfl, _, rfl, ?_⟩
            refine iteF ?_
            refine iteF ?_
            exact ⟨m, rfl, rfl, hl, r0⟩
      · rw [decide_eq_true (show (2 : Int) < ((w0 :: wr').length : Nat) by rw [List.length_cons]; omega)]
        refine iteT ?_
        refine iteT ?_
        refine he ?_ H2 S2
        rw [hrd]
        cases wr' with
        | nil => exact absurd (Nat.zero_le _) hl
        | cons w1 r =>
          cases r with
          | nil => exact absurd (Nat.le_refl _) hl
          | cons w2 r =>
            show rdF (rd w0 :: rd w1 :: rd w2 :: r.map rd) = none
            cases rd w0 <;> cases rd w1 <;> rfl
end
end Kw

set_option Elab.async false
set_option linter.all false
set_option maxRecDepth 100000
namespace Kw
open PySem L2 Mf Mt
@[irreducible] def sp_said : Sp := fun vs H Q _ => ∃ t, vs = [.str t] ∧ t.length ≤ 10000 ∧ (rdT t = none → ∀ H', Same H H' → Q .non H') ∧ (∀ g, rdT t = some g → ∀ a H', H' a = some (.tup [.int g.1, .int g.2]) → Same H H' → Q (.ref a) H')
theorem sp_said_i {t : Str} {H : Hp} {Q : VK} {E : XK} (z : t.length ≤ 10000) (e : rdT t = none → ∀ H', Same H H' → Q .non H') (q : ∀ g, rdT t = some g → ∀ a H', H' a = some (.tup [.int g.1, .int g.2]) → Same H H' → Q (.ref a) H') : sp_said [.str t] H Q E := by
  unfold sp_said; exact ⟨t, rfl, z, e, q⟩
@[irreducible] def sp_num : Sp := fun vs H Q _ => ∃ (p L : Addr) (b : Bool), vs = [.ref p, .bl b] ∧ FeedAt H p L ∧ ∀ x H', FeedAt H' p L → SameBut p H H' → x.natAbs < 2 ^ 3300 → Q (.int x) H'
theorem sp_num_i {H : Hp} {Q : VK} {E : XK} {p L : Addr} {b : Bool} (F : FeedAt H p L) (k : ∀ x H', FeedAt H' p L → SameBut p H H' → x.natAbs < 2 ^ 3300 → Q (.int x) H') : sp_num [.ref p, .bl b] H Q E := by unfold sp_num; exact ⟨p, L, b, rfl, F, k⟩
section
variable {P : Program} {w : World} {K : PySem.W.Frag} {mg : Str → Option Value} {base : Heap} {c : Cl}
theorem ok__law_said {f : Addr} {fd : FuncData} (F : Fun K "_law_said" "_law_said" s__law_said f fd) (T : Txt K mg c) (F_read_fraction : FnC (CX1 P w) P w K mg base 3 "read_fraction" ["text"] (sp_readf c.NoFraction)) : FnOk P w K mg base CX0 4 f fd ["_law_text"] sp_said := by
  refine F.okw sc__law_said (fun vs H Q E h => ?_) (fun cdv A outer s H vs Q E hr h => ?_)
  · unfold sp_said at h
    obtain ⟨n, rfl, _⟩ := h
    rfl
  · unfold sp_said at h
    obtain ⟨t, rfl, z, he, q⟩ := h
    refine ⟨_, (wss_cons (ws_set (i := 1) sc__law_said.nd rfl (Or.inl rfl) we_str)
      (wss_cons (ws_try (i := 2) rfl rfl rfl T.g_NoFraction T.c_NoFraction sc__law_said.nd rfl rfl (fun _ _ _ hx => (wss_one (ws_set (i := 1) sc__law_said.nd rfl (Or.inl rfl) (we_fnX F_read_fraction (hr.mono (by decide)) hx (wa_k (we_v 0) wa_nil))))) (fun _ => (wss_cons (ws_if (wt_not (wt_val (we_cB (cl_isiXK K) (by rfl) T.b_isinstance (by decide +kernel) (wa_k (we_v 2) (wa_k (we_glob (v := .ref c.EarlyError) rfl T.g_EarlyError rfl) wa_nil))))) (wss_one (ws_ret we_str)) wss_nil)
      (wss_one (ws_set (i := 1) sc__law_said.nd rfl (Or.inl rfl) we_non)))))
      (wss_one (ws_ret (we_v 1))))), ?_⟩
    refine ⟨fun σ' cls od H' => σ' = [some (.str t), some (.str (Str.ofString "refused")), none] ∧ cls = .ref c.NoFraction ∧ od = none ∧ Same H H' ∧ rdT t = none, ?_, ?_⟩
    · refine ⟨_, rfl, ?_⟩
      refine sp_readf_i z (fun e H' s' => ⟨rfl, rfl, rfl, s', e⟩) (fun g e a H' ea s' => ?_)
      exact ⟨_, rfl, q g e a H' ea s'⟩
    · rintro σ' cls od H' ⟨rfl, rfl, rfl, s', er⟩
      refine ⟨c.NoFraction, rfl, T.s1, fun a na => ?_⟩
      have ea : (upd H' a (ExcO a c.NoFraction none)) a = some (ExcO a c.NoFraction none) := upd_same
      have sa := Same.upd (o := ExcO a c.NoFraction none) na
      generalize upd H' a (ExcO a c.NoFraction none) = H1 at ea sa
      refine ⟨_, rfl, ?_⟩
      refine rxOne (b := true) ea T.e_NoFraction _ rfl T.k1 ?_
      refine ⟨_, rfl, ?_⟩
      refine iteF ?_
      exact ⟨_, rfl, he er H1 (s'.trans sa)⟩
set_option maxHeartbeats 4000000 in
theorem ok__law_number {f : Addr} {fd : FuncData} (F : Fun K "_law_number" "_law_number" s__law_number f fd) (T : Txt K mg c) (F__law_draw : FnC CX0 P w K mg base 1 "_law_draw" ["_law_feed_here", "_law_many"] sp_draw) : FnOk P w K mg base CX0 2 f fd ["_law_feed_here", "_law_great"] sp_num := by
  refine F.okw sc__law_number (fun vs H Q E h => ?_) (fun cdv A outer s H vs Q E hr h => ?_)
  · unfold sp_num at h
    obtain ⟨p, L, b, rfl, _⟩ := h
    rfl
  · unfold sp_num at h
    obtain ⟨p, L, b, rfl, F, k⟩ := h
    refine ⟨_, (wss_cons (ws_set (i := 2) sc__law_number.nd rfl (Or.inl rfl) (we_ix ix_seq (we_lst (wa_k we_int (wa_k we_int (wa_k (we_op op_pow we_int we_int) (wa_k we_int wa_nil))))) (we_fn F__law_draw (hr.mono (by decide)) (wa_k (we_v 0) (wa_k we_int wa_nil))) (fun _ _ => rfl)))
      (wss_cons (ws_for PassesOwn.never rfl (wi_range1 rfl T.b_range (wa_k (we_op op_mulB we_int (we_cT call_int1 (by rfl) T.b_int (by decide +kernel) (wa_k (we_v 1) wa_nil))) wa_nil)) (wg_name (i := 3) sc__law_number.nd rfl (Or.inl rfl)) (wss_one (ws_set (i := 2) sc__law_number.nd rfl (Or.inl rfl) (we_op op_mulB (we_v 2) (we_op op_pow we_int we_int)))))
      (wss_one (ws_ret (we_op op_sub (we_fn F__law_draw (hr.mono (by decide)) (wa_k (we_v 0) (wa_k (we_op op_add (we_op op_mulB we_int (we_v 2)) we_int) wa_nil))) (we_v 2)))))), ?_⟩
    refine ⟨_, _, rfl, rfl, ⟨by decide, by decide, by decide⟩, ?_⟩
    refine nwL (by show 4 ≤ 64; decide) fun q H1 hq e1 s1 => ?_
    refine ⟨_, rfl, ?_⟩
    refine sp_draw_i (F.same s1) (by decide) (by decide +kernel) fun x H2 x0 x1 F2 s2 => ?_
    obtain ⟨v, hat, hmem, _⟩ := atI_mem (xs := [V.int 12, V.int 999, V.int (10 ^ (30 : Int).toNat), V.int 12]) x0 x1
    refine ixL (s2.at (F.ne hq) e1) hat ?_
    have hv : ∃ far : Int, v = .int far ∧ 0 < far ∧ far ≤ 10 ^ 30 := by
      simp only [List.mem_cons, List.not_mem_nil, or_false] at hmem
      rcases hmem with rfl | rfl | rfl | rfl <;> exact ⟨_, rfl, by decide, by decide⟩
    obtain ⟨far, rfl, f0, f1⟩ := hv
    refine ⟨_, rfl, .inr ⟨_, rfl, ?_⟩⟩
    refine ⟨_, _, rfl, rfl, IntMulOk.of_left (by decide +kernel), _, rfl, by cases b <;> decide, by cases b <;> decide, ?_⟩
    have hn : (16 * (if b = true then (1 : Int) else 0)).toNat ≤ 16 := by cases b <;> decide
    have szf : ∀ (i : Nat) (g : Int), 0 < g → g ≤ 10 ^ (30 + 60 * i) → i ≤ 16 → g.natAbs < 2 ^ 3296 := by
      intro i g h0 h1 hi
      have h2 : (10 : Int) ^ (30 + 60 * i) = ((10 ^ (30 + 60 * i) : Nat) : Int) := by simp
      rw [h2] at h1
      have h3 : 10 ^ (30 + 60 * i) ≤ 10 ^ 990 := Nat.pow_le_pow_right (by decide) (by omega)
      have h4 : 10 ^ 990 < 2 ^ 3296 := by decide +kernel
      have h5 : g.natAbs ≤ 10 ^ (30 + 60 * i) := by omega
      exact Nat.lt_of_le_of_lt (Nat.le_trans h5 h3) h4
    refine for_range (fun i σ H' => ∃ (g : Int) (o3 : Option V), σ = [some (.ref p), some (.bl b), some (.int g), o3] ∧ 0 < g ∧ g ≤ 10 ^ (30 + 60 * i) ∧ H' = H2) ⟨far, _, rfl, f0, by simpa using f1, rfl⟩ ?_ ?_
    · rintro i σ H3 hi ⟨g, o3, rfl, g0, g1, rfl⟩
      have hi16 : i < 16 := by omega
      refine ⟨_, rfl, _, _, rfl, rfl, ⟨by decide, by decide, by decide⟩, _, _, rfl, rfl, mulB (szf i g g0 g1 (by omega)) (show ((10 : Int) ^ (60 : Int).toNat).natAbs < 2 ^ 200 by decide +kernel), ?_⟩
      refine ⟨g * 10 ^ (60 : Int).toNat, _, rfl, Int.mul_pos g0 (by decide), ?_, rfl⟩
      have e : (10 : Int) ^ (30 + 60 * (i + 1)) = 10 ^ (30 + 60 * i) * 10 ^ (60 : Int).toNat := by
        rw [← Int.pow_add]
        congr 1
      rw [e]
      exact Int.mul_le_mul_of_nonneg_right g1 (by decide)
    · rintro σ H3 ⟨g, o3, rfl, g0, g1, rfl⟩
      have zg := szf _ g g0 g1 hn
      have zb : (2 * g + 1).natAbs < 2 ^ 3299 := by
        have : 2 ^ 3299 = 8 * 2 ^ 3296 := by rw [show 3299 = 3 + 3296 from rfl, Nat.pow_add]
        omega
      refine ⟨_, rfl, _, rfl, _, _, rfl, rfl, IntMulOk.of_left (by decide +kernel), _, _, rfl, rfl, ?_⟩
      refine sp_draw_i F2 (by omega) (Nat.le_trans (bitsOf zb) (by decide)) fun y H4 y0 y1 F4 s4 => ?_
      refine ⟨_, rfl, _, _, rfl, rfl, ?_⟩
      refine k _ H4 F4 ((s1.but.trans s2).trans s4) ?_
      have : 2 ^ 3300 = 16 * 2 ^ 3296 := by rw [show 3300 = 4 + 3296 from rfl, Nat.pow_add]
      omega
end
end Kw

set_option Elab.async false
set_option linter.all false
set_option maxRecDepth 100000
namespace Kw
open PySem L2 Mf Mt
def okB (u : Str) : Bool := decide (u.length ≤ 2500) && u.cps.toList.all fun x => decide (x < 128)
theorem okB.use {u : Str} (h : okB u = true) : u.length ≤ 2500 ∧ Low u := by
  unfold okB at h
  rw [Bool.and_eq_true] at h
  exact ⟨of_decide_eq_true h.1, fun x hx => of_decide_eq_true (List.all_eq_true.mp h.2 x hx)⟩
def someT : List Str := ["", "-", "0", "/", "1/1", "2/4", "0/3", "-0", "00", "01", "1/0", "1/02", "1//2", "1/2/3", "+1", " 1", "1 ", "1/-2", "-1/2", "--1", "1_0", "0x1", "1.5", "3/", "/3", "-/3", "- 1", "1/ 2", "0/1", "-3/9"]
theorem someT_ok : someT.all okB = true := by decide +kernel
theorem Low.app {a b : Str} (h1 : Low a) (h2 : Low b) : Low (a ++ b) := fun x hx => by
  rw [app_cps] at hx
  exact (List.mem_append.mp hx).elim (h1 x) (h2 x)
@[irreducible] def sp_spoilt : Sp := fun vs H Q _ => ∃ (p L : Addr) (t : Str), vs = [.ref p, .str t] ∧ FeedAt H p L ∧ 1 ≤ t.length ∧ t.length ≤ 2400 ∧ Low t ∧ ∀ u H', FeedAt H' p L → SameBut p H H' → u.length ≤ 2500 → Low u → Q (.str u) H'
theorem sp_spoilt_i {H : Hp} {Q : VK} {E : XK} {p L : Addr} {t : Str} (F : FeedAt H p L) (z1 : 1 ≤ t.length) (z2 : t.length ≤ 2400) (lo : Low t) (k : ∀ u H', FeedAt H' p L → SameBut p H H' → u.length ≤ 2500 → Low u → Q (.str u) H') : sp_spoilt [.ref p, .str t] H Q E := by unfold sp_spoilt; exact ⟨p, L, t, rfl, F, z1, z2, lo, k⟩
section
variable {P : Program} {w : World} {K : PySem.W.Frag} {mg : Str → Option Value} {base : Heap} {c : Cl}
set_option maxHeartbeats 8000000 in
theorem ok__law_spoilt {f : Addr} {fd : FuncData} (F : Fun K "_law_spoilt" "_law_spoilt" s__law_spoilt f fd) (T : Txt K mg c) (F__law_draw : FnC CX0 P w K mg base 1 "_law_draw" ["_law_feed_here", "_law_many"] sp_draw) : FnOk P w K mg base CX0 2 f fd ["_law_feed_here", "_law_text"] sp_spoilt := by
  refine F.okw sc__law_spoilt (fun vs H Q E h => ?_) (fun cdv A outer s H vs Q E hr h => ?_)
  · unfold sp_spoilt at h
    obtain ⟨p, L, b, rfl, _⟩ := h
    rfl
  · unfold sp_spoilt at h
    obtain ⟨p, L, t, rfl, F, z1, z2, lo, k⟩ := h
    refine ⟨_, (wss_cons (ws_set (i := 2) sc__law_spoilt.nd rfl (Or.inl rfl) (we_lst (wa_k we_str (wa_k we_str (wa_k we_str (wa_k we_str (wa_k we_str (wa_k we_str (wa_k we_str (wa_k we_str (wa_k we_str (wa_k we_str (wa_k we_str (wa_k we_str (wa_k we_str (wa_k we_str (wa_k we_str (wa_k we_str (wa_k we_str wa_nil)))))))))))))))))))
      (wss_cons (ws_set (i := 2) sc__law_spoilt.nd rfl (Or.inl rfl) (we_op op_cat (we_v 2) (we_lst (wa_k we_str (wa_k we_str (wa_k we_str (wa_k we_str (wa_k we_str (wa_k we_str (wa_k we_str (wa_k we_str (wa_k we_str (wa_k we_str (wa_k we_str (wa_k we_str (wa_k we_str wa_nil))))))))))))))))
      (wss_cons (ws_set (i := 3) sc__law_spoilt.nd rfl (Or.inl rfl) (we_fn F__law_draw (hr.mono (by decide)) (wa_k (we_v 0) (wa_k we_int wa_nil))))
      (wss_cons (ws_if (wt_cmp op_eq (we_v 3) we_int (nomark _)) (wss_one (ws_ret (we_ix ix_seq (we_v 2) (we_fn F__law_draw (hr.mono (by decide)) (wa_k (we_v 0) (wa_k we_int wa_nil))) (fun _ _ => rfl)))) wss_nil)
      (wss_cons (ws_set (i := 4) sc__law_spoilt.nd rfl (Or.inl rfl) (we_fn F__law_draw (hr.mono (by decide)) (wa_k (we_v 0) (wa_k (we_cB cl_len (by rfl) T.b_len (by decide +kernel) (wa_k (we_v 1) wa_nil)) wa_nil))))
      (wss_cons (ws_set (i := 5) sc__law_spoilt.nd rfl (Or.inl rfl) (we_ix ix_seq we_str (we_fn F__law_draw (hr.mono (by decide)) (wa_k (we_v 0) (wa_k we_int wa_nil))) (fun _ _ => rfl)))
      (wss_one (ws_ret (we_op op_add_str (we_op op_add_str (we_slice sl_str (we_v 1) wo_none (wo_some (we_v 4))) (we_ix ix_seq (we_lst (wa_k we_str (wa_k (we_v 5) (wa_k (we_v 5) wa_nil)))) (we_op op_sub (we_v 3) we_int) (fun _ _ => rfl))) (we_slice sl_str (we_v 1) (wo_some (we_op op_add (we_v 4) (we_cT call_int1 (by rfl) T.b_int (by decide +kernel) (wa_k (we_cmp op_lt (we_v 3) we_int (nomark _)) wa_nil)))) wo_none)))))))))), ?_⟩
    refine nwL (by show 17 ≤ 64; decide) fun q1 H1 hq1 e1 s1 => ?_
    refine ⟨_, rfl, ?_⟩
    refine nwL (by show 13 ≤ 64; decide) fun q2 H2 hq2 e2 s2 => ?_
    refine ⟨_, _, _, _, rfl, rfl, s2 _ _ e1, e2, by show 17 + 13 ≤ sizeLine; decide, fun q3 n3 => ?_⟩
    have e3 : upd H2 q3 (.lst (someT.map V.str)) q3 = some (.lst (someT.map V.str)) := upd_same
    have s3 := Same.upd (o := .lst (someT.map V.str)) n3
    have S3 := (s1.trans s2).trans s3
    have hq3 : H q3 = none := s1.free (s2.free n3)
    have F3 := F.same S3
    refine ⟨_, rfl, ?_⟩
    refine sp_draw_i (H := upd H2 q3 (.lst (someT.map V.str))) F3 (by decide) (by decide +kernel) fun x4 H4 x40 x41 F4 s4 => ?_
    refine ⟨_, rfl, rfl, _, rfl, ?_⟩
    refine iteD (fun h => ?_) (fun h => ?_)
    · refine ⟨_, rfl, _, rfl, ?_⟩
      refine sp_draw_i F4 (by decide) (by decide +kernel) fun x5 H5 x50 x51 F5 s5 => ?_
      obtain ⟨v, hat, hmem, _⟩ := atI_mem (xs := someT.map V.str) x50 x51
      refine ixL (s5.at (F.ne hq3) (s4.at (F.ne hq3) e3)) hat ?_
      obtain ⟨u, hu, rfl⟩ := List.mem_map.mp hmem
      obtain ⟨h1, h2⟩ := okB.use (List.all_eq_true.mp someT_ok u hu)
      exact k u H5 F5 ((S3.but.trans s4).trans s5) h1 h2
    · have hx4 : x4 ≠ 0 := fun x => h (by rw [x])
      refine ⟨_, rfl, _, rfl, ?_⟩
      refine rlS (line20 (by omega)) ?_
      refine sp_draw_i F4 (by omega) (bitsOf (n := 9000) (Nat.lt_of_lt_of_le (m := 2 ^ 12) (by show ((t.length : Nat) : Int).natAbs < 4096; rw [Int.natAbs_natCast]; omega) (Nat.pow_le_pow_right (by decide) (by decide)))) fun x5 H5 x50 x51 F5 s5 => ?_
      refine ⟨_, rfl, ?_⟩
      refine sp_draw_i F5 (by decide) (by decide +kernel) fun x6 H6 x60 x61 F6 s6 => ?_
      obtain ⟨x, hatc, hmc, _⟩ := atI_mem (xs := (Str.ofString "0123456789/-+ _a").cps.toList) x60 (by rw [len_toList]; exact x61)
      have hx : x < 128 := by
        have : ((Str.ofString "0123456789/-+ _a").cps.toList.all fun x => decide (x < 128)) = true := by decide +kernel
        exact of_decide_eq_true (List.all_eq_true.mp this x hmc)
      refine .inr (.inr ⟨_, x6, x, rfl, rfl, by decide +kernel, hatc, ?_⟩)
      have l1 := Txt.slice_le t none (some x5)
      refine ⟨_, rfl, _, rfl, _, rfl, t, rfl, line20 (by omega), ?_⟩
      refine ⟨_, rfl, _, rfl, ?_⟩
      refine nwL (by show 3 ≤ 64; decide) fun q7 H7 hq7 e7 s7 => ?_
      refine ⟨_, rfl, _, _, rfl, rfl, ?_⟩
      obtain ⟨v, hat, hmem, _⟩ := atI_mem (xs := [V.str (Str.ofString ""), V.str ⟨#[x]⟩, V.str ⟨#[x]⟩]) (x := x4 - 1) (by omega) (by show x4 - 1 < 3; omega)
      refine ixL e7 hat ?_
      have hv : ∃ m : Str, v = .str m ∧ m.length ≤ 1 ∧ Low m := by
        simp only [List.mem_cons, List.not_mem_nil, or_false] at hmem
        have hl : Low ⟨#[x]⟩ := fun y hy => by
          have : y = x := by simpa using hy
          omega
        rcases hmem with rfl | rfl | rfl
        · exact ⟨_, rfl, by decide, fun y hy => by
            have e : (Str.ofString "").cps.toList = [] := by decide +kernel
            rw [e] at hy
            cases hy⟩
        · exact ⟨_, rfl, by show 1 ≤ 1; omega, hl⟩
        · exact ⟨_, rfl, by show 1 ≤ 1; omega, hl⟩
      obtain ⟨m, rfl, hm1, hm2⟩ := hv
      refine ⟨_, _, rfl, rfl, by rw [sizeLine_eq]; omega, ?_⟩
      refine ⟨_, rfl, _, rfl, _, rfl, _, _, rfl, rfl, .inr ⟨_, rfl, _, _, rfl, rfl, _, rfl, t, rfl, line20 (by omega), ?_⟩⟩
      have l2 := Txt.slice_le t (some (x5 + (if decide (x4 < 3) = true then 1 else 0))) none
      refine ⟨_, _, rfl, rfl, by rw [app_len, sizeLine_eq]; omega, ?_⟩
      have hk : (if decide (x4 < 3) = true then (1 : Int) else 0) = 0 ∨ (if decide (x4 < 3) = true then (1 : Int) else 0) = 1 := by split <;> simp
      refine k _ H7 (F6.same s7) ((((S3.but.trans s4).trans s5).trans s6).trans s7.but) ?_ ?_
      · have a1 : (Txt.slice t none (some x5)).length ≤ x5.toNat := by
          rw [← len_toList, slice_to x50 (by omega), List.length_take]
          exact Nat.min_le_left _ _
        have a2 : (Txt.slice t (some (x5 + (if decide (x4 < 3) = true then 1 else 0))) none).length ≤ t.length - x5.toNat := by
          rw [← len_toList, slice_from (by omega) (by omega), List.length_drop, len_toList]
          omega
        rw [app_len, app_len]
        refine Nat.le_trans (Nat.add_le_add (Nat.add_le_add a1 hm1) a2) ?_
        omega
      · refine Low.app (Low.app ?_ hm2) ?_
        · intro y hy
          rw [slice_to x50 (by omega)] at hy
          exact lo y (List.mem_of_mem_take hy)
        · intro y hy
          rw [slice_from (by omega) (by omega)] at hy
          exact lo y (List.mem_of_mem_drop hy)
end
end Kw

set_option Elab.async false
set_option linter.all false
set_option maxRecDepth 100000
namespace Kw
open PySem L2 Mf Mt
theorem szf_lw {n d : Int} {k : Nat} (h : 0 < d) (h1 : n.natAbs < 2 ^ k) (h2 : d.natAbs < 2 ^ k) : Szf k (lw n d) := by
  obtain ⟨b1, b2⟩ := lw_le (n := n) h
  have p := (lw_low (n := n) h).pos
  exact ⟨Nat.lt_of_le_of_lt b2 h1, by omega⟩
theorem p33 : 2 ^ 3310 ≤ 10 ^ 1000 := by decide +kernel
theorem tx_len1 {n : Int} (h : n.natAbs < 2 ^ 3310) : (tx n).length ≤ 1001 := by
  unfold tx
  rw [PySem.ofString_length]
  exact int_text_length_le10 (k := 1000) (by decide) (Nat.lt_of_lt_of_le h p33)
theorem tx_pos (n : Int) : 1 ≤ (tx n).length := by
  rw [← len_toList]
  rcases Int.lt_or_le n 0 with hn | hn
  · obtain ⟨m, rfl⟩ : ∃ m : Nat, n = -((m + 1 : Nat) : Int) := ⟨(-n - 1).toNat, by omega⟩
    rw [tx_neg]
    simp
  · obtain ⟨m, rfl⟩ := Int.eq_ofNat_of_zero_le hn
    rw [tx_nat]
    cases q : dg m with
    | nil => exact absurd q (dg_ne m)
    | cons x r => simp
theorem tx_low (n : Int) : Low (tx n) := by
  intro x hx
  rcases Int.lt_or_le n 0 with hn | hn
  · obtain ⟨m, rfl⟩ : ∃ m : Nat, n = -((m + 1 : Nat) : Int) := ⟨(-n - 1).toNat, by omega⟩
    rw [tx_neg] at hx
    rcases List.mem_cons.mp hx with h | h
    · omega
    · have := dg_all _ x h; omega
  · obtain ⟨m, rfl⟩ := Int.eq_ofNat_of_zero_le hn
    rw [tx_nat] at hx
    have := dg_all _ x hx
    omega
def TT (f : Fr) : Str := if f.2 = 1 then tx f.1 else tx f.1 ++ sl ++ tx f.2
theorem TT_facts {f : Fr} (z : Szf 3310 f) : 1 ≤ (TT f).length ∧ (TT f).length ≤ 2400 ∧ Low (TT f) := by
  have a1 := tx_len1 z.1
  have a2 := tx_len1 z.2
  have a3 := tx_pos f.1
  have e : sl.length = 1 := rfl
  unfold TT
  split
  · exact ⟨a3, by omega, tx_low _⟩
  · rw [app_len, app_len, e]
    refine ⟨by omega, by omega, Low.app (Low.app (tx_low _) ?_) (tx_low _)⟩
    intro x hx
    have : x = 47 := by simpa [sl] using hx
    omega
theorem TT_read {f : Fr} (l : LowF f) (z : Szf 3310 f) : rdT (TT f) = some f := by
  have a1 := tx_len1 z.1
  have a2 := tx_len1 z.2
  obtain ⟨n, d⟩ := f
  have hp : 0 < d := l.pos
  have hg : Int.gcd n d = 1 := l.low
  unfold rdT words TT
  dsimp only at a1 a2 ⊢
  by_cases h : d = 1
  · rw [if_pos h, split_one (tx_free n)]
    show rdF [rd (tx n)] = _
    rw [rd_tx (by omega), h]
    rfl
  · rw [if_neg h, split_two (tx_free n) (tx_free d)]
    show rdF [rd (tx n), rd (tx d)] = _
    rw [rd_tx (by omega), rd_tx (by omega)]
    show (if (!decide (d = 1) && (decide (1 ≤ d) && decide (Int.gcd n d = 1))) = true then some (n, d) else none) = _
    rw [decide_eq_false h, decide_eq_true (show 1 ≤ d by omega), decide_eq_true hg]
    rfl
theorem rd_small {t : Str} {n : Int} (z : t.length ≤ 2500) (h : rd t = some n) : n.natAbs < 10 ^ 4300 := by
  unfold rd at h
  split at h
  · rename_i hb
    have hf : figs (fg t) = true := by
      unfold rdB at hb
      simp only [Bool.and_eq_true] at hb
      exact hb.1.2
    have hl := fg_len t
    injection h with h
    have h1 : val (fg t) < 10 ^ (fg t).length := by
      have := dv_lt (figs_all hf)
      rw [len_toList] at this
      exact this
    have h2 : n.natAbs = val (fg t) := by
      rw [← h]
      unfold rdV
      split <;> omega
    rw [h2]
    exact Nat.lt_of_lt_of_le h1 (Nat.pow_le_pow_right (by decide) (by omega))
  · cases h
theorem rdT_small {t : Str} {g : Fr} (z : t.length ≤ 2500) (h : rdT t = some g) : g.1.natAbs < 10 ^ 4300 ∧ g.2.natAbs < 10 ^ 4300 := by
  unfold rdT at h
  have hb : ∀ u ∈ words t, u.length ≤ 2500 := fun u hu => Nat.le_trans (part_len hu) z
  have one : (1 : Int).natAbs < 10 ^ 4300 := Nat.one_lt_pow (by decide) (by decide)
  generalize words t = ws at h hb
  match ws, h with
  | [w0], h =>
    have h : rdF [rd w0] = some g := h
    cases q : rd w0 with
    | none => rw [q] at h; cases h
    | some n =>
      rw [q] at h
      have h : some (n, (1 : Int)) = some g := h
      injection h with h
      rw [← h]
      exact ⟨rd_small (hb w0 (by simp)) q, one⟩
  | [w0, w1], h =>
    have h : rdF [rd w0, rd w1] = some g := h
    cases q : rd w0 with
    | none => rw [q] at h; cases h
    | some n =>
      cases q1 : rd w1 with
      | none => rw [q, q1] at h; cases h
      | some d =>
        rw [q, q1] at h
        have h : (if (!decide (d = 1) && isf [some n, some d]) = true then some (n, d) else none) = some g := h
        split at h
        · injection h with h
          rw [← h]
          exact ⟨rd_small (hb w0 (by simp)) q, rd_small (hb w1 (by simp)) q1⟩
        · cases h
  | w0 :: w1 :: w2 :: r, h =>
    have h : rdF (rd w0 :: rd w1 :: rd w2 :: r.map rd) = some g := h
    cases q : rd w0 <;> cases q1 : rd w1 <;> (rw [q, q1] at h; cases h)
/-! the long one -/
def LG0 : Str := Txt.mul (Str.ofString "123456789") 444 ++ Str.ofString "1234"
theorem LG0_len : LG0.length = 4000 := by decide +kernel
theorem LG0_figs : figs LG0 = true := by decide +kernel
theorem LG0_head : LG0.cps.toList.head? = some 49 := by decide +kernel
@[irreducible] def LG : Str := LG0
theorem LG_eq : LG = LG0 := by unfold LG; rfl
theorem LG_len : LG.length = 4000 := by rw [LG_eq]; exact LG0_len
theorem LG_figs : figs LG = true := by rw [LG_eq]; exact LG0_figs
theorem LG_head : LG.cps.toList.head? = some 49 := by rw [LG_eq]; exact LG0_head
theorem LG_is : Txt.mul (Str.ofString "123456789") 444 ++ Str.ofString "1234" = LG := by rw [LG_eq]; rfl
def LG7 : Str := LG ++ Str.ofString "7"
theorem LG7_len : LG7.length = 4001 := by
  unfold LG7
  rw [app_len, LG_len]
  rfl
theorem free_figs {t : Str} (h : figs t = true) : 47 ∉ t.cps.toList := fun z => by
  have := figs_all h 47 z
  omega
theorem LG7_figs : figs LG7 = true := by
  unfold LG7
  refine figs_of fun x hx => ?_
  rw [app_cps] at hx
  rcases List.mem_append.mp hx with hx | hx
  · exact figs_all LG_figs x hx
  · have e : (Str.ofString "7").cps.toList = [55] := by decide +kernel
    rw [e] at hx
    have := List.mem_singleton.mp hx
    omega
theorem LG_read : rdT LG = some (((val LG : Nat) : Int), (1 : Int)) := by
  unfold rdT words
  rw [split_one (free_figs LG_figs)]
  show rdF [rd LG] = _
  have hn : neg LG = false := by unfold neg; rw [LG_head]; rfl
  have hb : wrB LG = true := by
    unfold wrB
    rw [LG_figs, LG_head]
    have : LG.cps.toList.isEmpty = false := by
      cases q : LG.cps.toList with
      | nil => have := LG_head; rw [q] at this; cases this
      | cons _ _ => rfl
    rw [this]
    rfl
  rw [rd_plain hn (by rw [LG_len]; decide)]
  unfold wr
  rw [if_pos hb]
  rfl
theorem LG7_none : rd LG7 = none := by
  have hh : LG7.cps.toList.head? = some 49 := by
    unfold LG7
    rw [app_cps]
    have := LG_head
    cases q : LG.cps.toList with
    | nil => rw [q] at this; cases this
    | cons x r => rw [q] at this; exact this
  have hn : neg LG7 = false := by unfold neg; rw [hh]; rfl
  have ef : fg LG7 = LG7 := by unfold fg; rw [hn]; rfl
  unfold rd rdB
  rw [ef, LG7_len]
  rfl
theorem LG7_read : rdT LG7 = none := by
  unfold rdT words
  rw [split_one (free_figs LG7_figs)]
  show rdF [rd LG7] = _
  rw [LG7_none]
  rfl
theorem LG1_read : rdT (Str.ofString "1/" ++ LG ++ Str.ofString "7") = none := by
  have e : Str.ofString "1/" ++ LG ++ Str.ofString "7" = Str.ofString "1" ++ sl ++ LG7 := str_ext (by
    unfold LG7
    rw [app_cps, app_cps, app_cps, app_cps, app_cps]
    have e1 : (Str.ofString "1/").cps.toList = (Str.ofString "1").cps.toList ++ sl.cps.toList := by decide +kernel
    rw [e1]
    simp)
  unfold rdT words
  rw [e, split_two (by decide +kernel) (free_figs LG7_figs)]
  show rdF [rd (Str.ofString "1"), rd LG7] = _
  rw [LG7_none]
  cases rd (Str.ofString "1") <;> rfl
section
variable {P : Program} {w : World} {K : PySem.W.Frag} {mg : Str → Option Value} {base : Heap} {c : Cl}
set_option maxHeartbeats 8000000 in
theorem ok_law {f : Addr} {fd : FuncData} (F : Fun K "law" "law" s_law f fd) (T : Txt K mg c)
    (F__law_feed : FnC CX0 P w K mg base 1 "_law_feed" ["_law_script"] (sp_feed K)) (F__law_draw : FnC CX0 P w K mg base 1 "_law_draw" ["_law_feed_here", "_law_many"] sp_draw)
    (F__law_low : FnC CX0 P w K mg base 1 "_law_low" ["_law_n", "_law_d"] sp_low) (F__law_number : FnC CX0 P w K mg base 2 "_law_number" ["_law_feed_here", "_law_great"] sp_num)
    (F_shown_fraction : FnC CX0 P w K mg base 2 "shown_fraction" ["one"] sp_shf) (F__law_said : FnC CX0 P w K mg base 4 "_law_said" ["_law_text"] sp_said)
    (F__law_spoilt : FnC CX0 P w K mg base 2 "_law_spoilt" ["_law_feed_here", "_law_text"] sp_spoilt) (F__law_due : FnC CX0 P w K mg base 2 "_law_due" ["_law_text"] sp_due) : FnOk P w K mg base CX0 5 f fd ["_law_script"] (sp_law K) := by
  refine F.okw sc_law (fun vs H Q E h => ?_) (fun cdv A outer s H vs Q E hr h => ?_)
  · unfold sp_law at h
    obtain ⟨a, ns, rfl, _⟩ := h
    rfl
  · unfold sp_law at h
    obtain ⟨a, ns, rfl, hs, hl, k⟩ := h
    refine ⟨_, (wss_cons (ws_set (i := 1) sc_law.nd rfl (Or.inl rfl) (we_fn F__law_feed (hr.mono (by decide)) (wa_k (we_v 0) wa_nil)))
      (wss_cons (ws_set (i := 2) sc_law.nd rfl (Or.inl rfl) (we_cmp op_eq (we_fn F__law_draw (hr.mono (by decide)) (wa_k (we_v 1) (wa_k we_int wa_nil))) we_int (nomark _)))
      (wss_cons (ws_for PassesOwn.never rfl (wi_range1 rfl T.b_range (wa_k (we_op op_add we_int (we_op op_mulB (we_fn F__law_draw (hr.mono (by decide)) (wa_k (we_v 1) (wa_k we_int wa_nil))) (we_cT call_int1 (by rfl) T.b_int (by decide +kernel) (wa_k (we_not (we_v 2)) wa_nil)))) wa_nil)) (wg_name (i := 3) sc_law.nd rfl (Or.inl rfl)) (wss_cons (ws_set (i := 4) sc_law.nd rfl (Or.inl rfl) (we_fn F__law_low (hr.mono (by decide)) (wa_k (we_fn F__law_number (hr.mono (by decide)) (wa_k (we_v 1) (wa_k (we_v 2) wa_nil))) (wa_k (we_op op_add we_int (we_cB cl_abs (by rfl) T.b_abs (by decide +kernel) (wa_k (we_fn F__law_number (hr.mono (by decide)) (wa_k (we_v 1) (wa_k (we_v 2) wa_nil))) wa_nil))) wa_nil))))
      (wss_cons (ws_set (i := 5) sc_law.nd rfl (Or.inl rfl) (we_fn F_shown_fraction (hr.mono (by decide)) (wa_k (we_v 4) wa_nil)))
      (wss_cons (ws_cut (ws_set (i := 6) sc_law.nd rfl (Or.inl rfl) (we_ifExp (wt_cmp op_eq (we_ix ix_seq (we_v 4) we_int (fun _ _ => rfl)) we_int (nomark _)) (we_cT (cl_strI rfl T.nd) (by rfl) T.b_str (by decide +kernel) (wa_k (we_ix ix_seq (we_v 4) we_int (fun _ _ => rfl)) wa_nil)) (we_op op_add_str (we_op op_add_str (we_cT (cl_strI rfl T.nd) (by rfl) T.b_str (by decide +kernel) (wa_k (we_ix ix_seq (we_v 4) we_int (fun _ _ => rfl)) wa_nil)) we_str) (we_cT (cl_strI rfl T.nd) (by rfl) T.b_str (by decide +kernel) (wa_k (we_ix ix_seq (we_v 4) we_int (fun _ _ => rfl)) wa_nil))))))
      (wss_cons (ws_if (wt_w (ww_or (wt_not (wt_val (we_cB cl_isi (by rfl) T.b_isinstance (by decide +kernel) (wa_k (we_v 5) (wa_k (we_bltn (v := .ty "str") (u := .type "str") rfl T.b_str (by decide +kernel) rfl) wa_nil))))) (ww_or (wt_cmp op_ne (we_v 5) (we_v 6) (nomark _)) (ww_or1 (wt_cmp op_ne (we_cB (cl_reprB T.nd hr.gd hr.units) (by rfl) T.b_repr (by decide +kernel) (wa_k (we_fn F__law_said (hr.mono (by decide)) (wa_k (we_v 5) wa_nil)) wa_nil)) (we_cB (cl_reprB T.nd hr.gd hr.units) (by rfl) T.b_repr (by decide +kernel) (wa_k (we_v 4) wa_nil)) (nomark _)))))) (wss_one (ws_ret we_bl)) wss_nil)
      (wss_cons (ws_set (i := 7) sc_law.nd rfl (Or.inl rfl) (we_fn F__law_spoilt (hr.mono (by decide)) (wa_k (we_v 1) (wa_k (we_v 5) wa_nil))))
      (wss_one (ws_if (wt_cmp op_ne (we_cB (cl_reprB T.nd hr.gd hr.units) (by rfl) T.b_repr (by decide +kernel) (wa_k (we_fn F__law_said (hr.mono (by decide)) (wa_k (we_v 7) wa_nil)) wa_nil)) (we_cB (cl_reprB T.nd hr.gd hr.units) (by rfl) T.b_repr (by decide +kernel) (wa_k (we_fn F__law_due (hr.mono (by decide)) (wa_k (we_v 7) wa_nil)) wa_nil)) (nomark _)) (wss_one (ws_ret we_bl)) wss_nil))))))))
      (wss_cons (ws_set (i := 8) sc_law.nd rfl (Or.inl rfl) (we_op op_add_str (we_op op_mulS we_str we_int) we_str))
      (wss_cons (ws_if (wt_w (ww_or (wt_cmp (op_neD hr.units) (we_fn F__law_said (hr.mono (by decide)) (wa_k (we_v 8) wa_nil)) (we_tup (wa_k (we_cT (cl_intT T.nd) (by rfl) T.b_int (by decide +kernel) (wa_k (we_v 8) wa_nil)) (wa_k we_int wa_nil))) (nomark _)) (ww_or1 (wt_cmp op_notN (we_fn F__law_said (hr.mono (by decide)) (wa_k (we_op op_add_str (we_op op_add_str we_str (we_v 8)) we_str) wa_nil)) we_non (nomark _))))) (wss_one (ws_ret we_bl)) wss_nil)
      (wss_one (ws_ret (we_cmp op_isN (we_fn F__law_said (hr.mono (by decide)) (wa_k (we_op op_add_str (we_v 8) we_str) wa_nil)) we_non (nomark _))))))))), ?_⟩
    refine ⟨_, rfl, ?_⟩
    refine sp_feed_i hs hl fun p L H0 F0 _ _ _ => ?_
    refine ⟨_, rfl, ?_⟩
    refine sp_draw_i F0 (by decide) (by decide +kernel) fun x1 H1 x10 x11 F1 s1 => ?_
    refine ⟨rfl, ?_⟩
    generalize decide (V.int x1 = V.int 3) = great
    refine ⟨_, rfl, ?_⟩
    refine sp_draw_i F1 (by decide) (by decide +kernel) fun x2 H2 x20 x21 F2 s2 => ?_
    refine ⟨_, rfl, _, rfl, .inr ⟨_, rfl, ?_⟩⟩
    have hm : 0 ≤ x2 * (if (!great) = true then (1 : Int) else 0) ∧ x2 * (if (!great) = true then (1 : Int) else 0) ≤ 26 := by
      cases great
      · simp; omega
      · simp
    refine ⟨_, _, rfl, rfl, IntMulOk.of_left (PySem.intBits_le_64 (by omega) (by omega)), _, _, rfl, rfl, _, rfl, by omega, by omega, ?_⟩
    refine for_range (fun i σ H' => ∃ (o3 o4 o5 o6 o7 : Option V), σ = [some (.ref a), some (.ref p), some (.bl great), o3, o4, o5, o6, o7, none] ∧ FeedAt H' p L) ⟨_, _, _, _, _, rfl, F2⟩ ?_ ?_
    · rintro i σ H3 hi ⟨o3, o4, o5, o6, o7, rfl, F3⟩
      refine ⟨_, rfl, _, rfl, ?_⟩
      refine sp_num_i F3 fun n H4 F4 s4 zn => ?_
      refine ⟨_, rfl, _, rfl, ?_⟩
      refine sp_num_i F4 fun y H5 F5 s5 zy => ?_
      refine raI ?_
      refine ⟨_, _, rfl, rfl, ?_⟩
      have pd : 0 < 1 + (y.natAbs : Int) := by omega
      have zd : (1 + (y.natAbs : Int)).natAbs < 2 ^ 3310 := by
        have : 2 ^ 3310 = 1024 * 2 ^ 3300 := by rw [show 3310 = 10 + 3300 from rfl, Nat.pow_add]
        omega
      have zn : n.natAbs < 2 ^ 3310 := sz_mono zn
      refine sp_low_i pd (sz_mono zd) ?_
      intro q6 H6 hq6 e6 s6
      have ll := lw_low (n := n) pd
      have zf := szf_lw pd zn zd
      generalize lw n (1 + (y.natAbs : Int)) = g at e6 ll zf
      have F6 := F5.same s6
      have b1 : g.1.natAbs < 10 ^ 4300 := big8 (sz_mono zf.1)
      have b2 : g.2.natAbs < 10 ^ 4300 := big8 (sz_mono zf.2)
      obtain ⟨t1, t2, t3⟩ := TT_facts zf
      have hrd := TT_read ll zf
      refine ⟨_, rfl, ?_⟩
      refine sp_shf_i e6 (sz_mono zf.1) (sz_mono zf.2) fun H7 s7 => ?_
      have e7 := s7 _ _ e6
      have F7 := F6.same s7
      have et : (if g.2 = 1 then tx g.1 else tx g.1 ++ sl ++ tx g.2) = TT g := rfl
      rw [et]
      refine ⟨fun σ H' => ∃ (o3 o7 : Option V), σ = [some (.ref a), some (.ref p), some (.bl great), o3, some (.ref q6), some (.str (TT g)), some (.str (TT g)), o7, none] ∧ H' = H7, ?_, ?_⟩
      · rintro σ H8 ⟨o3, o7, rfl, rfl⟩
        refine ⟨_, rfl, ?_⟩
        refine riI (Rep.str _) ?_
        refine ⟨_, rfl, ?_⟩
        refine iteF ?_
        refine ⟨_, rfl, _, rfl, rfl, _, rfl, ?_⟩
        refine iteNS rfl ?_
        refine ⟨_, rfl, ?_⟩
        refine sp_said_i (by omega) (fun e => by rw [hrd] at e; cases e) (fun g' e a' H9 ea s9 => ?_)
        rw [hrd] at e
        cases e
        refine rreprT ea b1 b2 ?_
        refine ⟨_, rfl, ?_⟩
        refine rreprT (s9 _ _ e7) b1 b2 ?_
        refine ⟨rfl, _, rfl, ?_⟩
        refine iteNS rfl ?_
        have F9 := F7.same s9
        refine ⟨_, rfl, _, rfl, ?_⟩
        refine sp_spoilt_i F9 t1 t2 t3 fun u H10 F10 s10 zu lu => ?_
        refine ⟨_, rfl, ?_⟩
        cases hru : rdT u with
        | none =>
          refine sp_said_i (by omega) (fun _ H11 s11 => ?_) (fun g' e => by rw [hru] at e; cases e)
          refine rreprN ?_
          refine ⟨_, rfl, ?_⟩
          refine sp_due_i zu lu (fun _ H12 s12 => ?_) (fun g' e => by rw [hru] at e; cases e)
          refine rreprN ?_
          refine ⟨rfl, _, rfl, ?_⟩
          refine iteNS rfl ?_
          exact ⟨_, _, _, _, _, rfl, (F10.same s11).same s12⟩
        | some g2 =>
          obtain ⟨c1, c2⟩ := rdT_small zu hru
          refine sp_said_i (by omega) (fun e => by rw [hru] at e; cases e) (fun g' e a2 H11 ea2 s11 => ?_)
          rw [hru] at e
          cases e
          refine rreprT ea2 c1 c2 ?_
          refine ⟨_, rfl, ?_⟩
          refine sp_due_i zu lu (fun e => by rw [hru] at e; cases e) (fun g' e a3 H12 ea3 s12 => ?_)
          rw [hru] at e
          cases e
          refine rreprT ea3 c1 c2 ?_
          refine ⟨rfl, _, rfl, ?_⟩
          refine iteNS rfl ?_
          exact ⟨_, _, _, _, _, rfl, (F10.same s11).same s12⟩
      · refine ⟨_, rfl, ?_⟩
        refine ixT e7 rfl ?_
        refine ⟨rfl, _, rfl, ?_⟩
        have a1 := tx_len1 zf.1
        have a2 := tx_len1 zf.2
        refine iteD (fun h => ?_) (fun h => ?_)
        · have hd : g.2 = 1 := by injection h
          refine ⟨_, rfl, ?_⟩
          refine ixT e7 rfl ?_
          refine rstrI b1 ?_
          refine ⟨some (.int (0 + (i : Int))), o7, ?_, rfl⟩
          have : TT g = tx g.1 := by unfold TT; rw [if_pos hd]
          rw [this]
          rfl
        · have hd : g.2 ≠ 1 := fun x => h (by rw [x])
          refine ⟨_, rfl, ?_⟩
          refine ixT e7 rfl ?_
          refine rstrI b1 ?_
          refine ⟨_, _, rfl, rfl, by
            show (tx g.1).length + (Str.ofString "/").length ≤ sizeLine
            rw [sizeLine_eq]
            have : (Str.ofString "/").length = 1 := rfl
            omega, ?_⟩
          refine ⟨_, rfl, ?_⟩
          refine ixT e7 rfl ?_
          refine rstrI b2 ?_
          refine ⟨_, _, rfl, rfl, by
            show (tx g.1 ++ Str.ofString "/").length + (tx g.2).length ≤ sizeLine
            rw [app_len, sizeLine_eq]
            have : (Str.ofString "/").length = 1 := rfl
            omega, ?_⟩
          refine ⟨some (.int (0 + (i : Int))), o7, ?_, rfl⟩
          have : TT g = tx g.1 ++ sl ++ tx g.2 := by unfold TT; rw [if_neg hd]
          rw [this]
          rfl
    · rintro σ H3 ⟨o3, o4, o5, o6, o7, rfl, F3⟩
      refine ⟨_, _, rfl, rfl, ⟨by decide +kernel, fun _ _ => by decide +kernel, fun _ _ => by decide +kernel⟩, _, _, rfl, rfl, by decide +kernel, ?_⟩
      rw [LG_is]
      have hl4 : LG.length = 4000 := LG_len
      refine ⟨_, rfl, ?_⟩
      refine sp_said_i (by omega) (fun e => by rw [LG_read] at e; cases e) (fun g' e a2 H4 ea s4 => ?_)
      rw [LG_read] at e
      cases e
      refine ⟨_, rfl, ?_⟩
      have hLne : LG.cps.toList ≠ [] := fun e => by
        have h := LG_head
        rw [e] at h
        cases h
      refine rintT (n := ((val LG : Nat) : Int)) (fun x hx => .inr (figs_all LG_figs x hx)) (PySem.intText_digits (figs_all LG_figs) hLne (by omega)) (line20 (by omega)) ?_
      refine nwT (by show 2 ≤ 64; decide) fun q5 H5 hq5 e5 s5 => ?_
      refine reD (frD_of (f := (((val LG : Nat) : Int), (1 : Int))) (s5 _ _ ea)) (frD_of (f := (((val LG : Nat) : Int), (1 : Int))) e5) rfl rfl ?_
      rw [eqv_fr, decide_eq_true rfl]
      refine ⟨_, rfl, ?_⟩
      refine iteF ?_
      have l7 : (Str.ofString "7").length = 1 := rfl
      have l1 : (Str.ofString "1/").length = 2 := rfl
      refine ⟨_, rfl, _, _, rfl, rfl, by rw [l1, hl4, sizeLine_eq]; decide, ?_⟩
      refine ⟨_, _, rfl, rfl, by rw [app_len, l1, l7, hl4, sizeLine_eq]; decide, ?_⟩
      refine sp_said_i (by rw [app_len, app_len, l1, l7, hl4]; decide) (fun _ H6 s6 => ?_) (fun g' e => by rw [LG1_read] at e; cases e)
      refine ⟨rfl, _, rfl, ?_⟩
      refine iteF ?_
      refine ⟨_, rfl, _, _, rfl, rfl, by rw [l7, hl4, sizeLine_eq]; decide, ?_⟩
      refine sp_said_i (by rw [app_len, l7, hl4]; decide) (fun _ H7 s7 => ?_) (fun g' e => by rw [show rdT (LG ++ Str.ofString "7") = none from LG7_read] at e; cases e)
      exact ⟨rfl, k H7⟩
end
theorem all_mk {l : PySem.W.OpenLaw} {w : World} {K : PySem.W.Frag} {h : Heap} {mg : Str → Option Value} {fa : Addr} {c_EarlyError : Addr} {c_NoFraction : Addr} {tok_FIGURES : Tok} {tok_MOST_FIGURES : Tok} {tok_PIECE_FIGURES : Tok} {cd_NoFraction : ClassData} {ce_NoFraction : ClassData} {f0 : Addr} {od0 an0 : Option Addr} {sl0 : Array (Option Value)} {oc0 kV0 dc0 pm0 cd0 ct0 : Value} {f1 : Addr} {od1 an1 : Option Addr} {sl1 : Array (Option Value)} {oc1 kV1 dc1 pm1 cd1 ct1 : Value} {f2 : Addr} {od2 an2 : Option Addr} {sl2 : Array (Option Value)} {oc2 kV2 dc2 pm2 cd2 ct2 : Value} {f3 : Addr} {od3 an3 : Option Addr} {sl3 : Array (Option Value)} {oc3 kV3 dc3 pm3 cd3 ct3 : Value} {f4 : Addr} {od4 an4 : Option Addr} {sl4 : Array (Option Value)} {oc4 kV4 dc4 pm4 cd4 ct4 : Value} {f5 : Addr} {od5 an5 : Option Addr} {sl5 : Array (Option Value)} {oc5 kV5 dc5 pm5 cd5 ct5 : Value} {f6 : Addr} {od6 an6 : Option Addr} {sl6 : Array (Option Value)} {oc6 kV6 dc6 pm6 cd6 ct6 : Value} {f7 : Addr} {od7 an7 : Option Addr} {sl7 : Array (Option Value)} {oc7 kV7 dc7 pm7 cd7 ct7 : Value} {f8 : Addr} {od8 an8 : Option Addr} {sl8 : Array (Option Value)} {oc8 kV8 dc8 pm8 cd8 ct8 : Value} {f9 : Addr} {od9 an9 : Option Addr} {sl9 : Array (Option Value)} {oc9 kV9 dc9 pm9 cd9 ct9 : Value} {f10 : Addr} {od10 an10 : Option Addr} {sl10 : Array (Option Value)} {oc10 kV10 dc10 pm10 cd10 ct10 : Value} {f11 : Addr} {od11 an11 : Option Addr} {sl11 : Array (Option Value)} {oc11 kV11 dc11 pm11 cd11 ct11 : Value} {f12 : Addr} {od12 an12 : Option Addr} {sl12 : Array (Option Value)} {oc12 kV12 dc12 pm12 cd12 ct12 : Value} {f13 : Addr} {od13 an13 : Option Addr} {sl13 : Array (Option Value)} {oc13 kV13 dc13 pm13 cd13 ct13 : Value} {f14 : Addr} {od14 an14 : Option Addr} {sl14 : Array (Option Value)} {oc14 kV14 dc14 pm14 cd14 ct14 : Value} {f15 : Addr} {od15 an15 : Option Addr} {sl15 : Array (Option Value)} {oc15 kV15 dc15 pm15 cd15 ct15 : Value} {f16 : Addr} {od16 an16 : Option Addr} {sl16 : Array (Option Value)} {oc16 kV16 dc16 pm16 cd16 ct16 : Value} (X : K.In h) (G : h.Ns mainGlobals mg) (hfa : mg "law" = some (.ref fa))
    (u_EarlyError : PySem.W.nsIn K mainGlobals "EarlyError" = some (some (.ref c_EarlyError)))
    (u_NoFraction : PySem.W.nsIn K mainGlobals "NoFraction" = some (some (.ref c_NoFraction)))
    (u_FIGURES : PySem.W.nsIn K mainGlobals "FIGURES" = some (some (.str (Str.ofString "0123456789") tok_FIGURES)))
    (u_MOST_FIGURES : PySem.W.nsIn K mainGlobals "MOST_FIGURES" = some (some (.int 4000 tok_MOST_FIGURES)))
    (u_PIECE_FIGURES : PySem.W.nsIn K mainGlobals "PIECE_FIGURES" = some (some (.int 64 tok_PIECE_FIGURES)))
    (x_NoFraction : PySem.W.excIn K c_NoFraction mroVE "ValueError.__new__" = true)
    (ga_NoFraction : PySem.W.findIn K (.ref c_NoFraction) "__getattribute__" = some (some (.builtin "BaseException.__getattribute__")))
    (gt_NoFraction : PySem.W.findIn K (.ref c_NoFraction) "__getattr__" = some none)
    (su_NoFraction : PySem.W.subIn K (.ref c_NoFraction) (.type "BaseException") = some true)
    (cl_NoFraction : PySem.W.clsIn K c_NoFraction = some cd_NoFraction)
    (kc_NoFraction : PySem.W.findIn K (.ref c_NoFraction) "__class__" = some (some (.builtin "object.__class__")))
    (kg_NoFraction : PySem.W.specialIn K (.builtin "object.__class__") "__get__" = some (some (.builtin "getset_descriptor.__get__")))
    (kt_NoFraction : PySem.W.takesIn K (.builtin "object.__class__") = some true)
    (ob_NoFraction : PySem.W.mroIn K c_NoFraction (.type "object") = some true)
    (ty_NoFraction : PySem.W.typeIn K (.ref c_NoFraction) = some (.type "type"))
    (cm_NoFraction : PySem.W.clsIn K c_NoFraction = some ce_NoFraction)
    (sb_NoFraction : PySem.W.subIn K (.ref c_NoFraction) (.type "BaseException") = some true)
    (y0 : PySem.W.subIn K (.ref c_NoFraction) (.ref c_NoFraction) = some true)
    (y1 : PySem.W.kitOne K (.ref c_NoFraction) (.ref c_EarlyError) = some true)
    (y2 : PySem.W.nsOkIn K cStatics = true)
    (y3 : PySem.W.nsIn K cStatics "sys.int_max_str_digits" = some none)
    (a0 : PySem.W.nsIn K mainGlobals "_law_feed" = some (some (.ref f0))) (l0 : K.lookup f0 = some ⟨oc0, od0, .func (PySem.W.fnOf "_law_feed" "_law_feed" (defArgs s__law_feed) (defBody s__law_feed) (defScope s__law_feed) .none kV0 dc0 pm0 an0 cd0 ct0), sl0⟩) (c0 : PySem.W.codeIn K cd0 "_law_feed" = true) (k0 : PySem.W.keepIn K (.ref f0) = true)
    (a1 : PySem.W.nsIn K mainGlobals "_law_draw" = some (some (.ref f1))) (l1 : K.lookup f1 = some ⟨oc1, od1, .func (PySem.W.fnOf "_law_draw" "_law_draw" (defArgs s__law_draw) (defBody s__law_draw) (defScope s__law_draw) .none kV1 dc1 pm1 an1 cd1 ct1), sl1⟩) (c1 : PySem.W.codeIn K cd1 "_law_draw" = true) (k1 : PySem.W.keepIn K (.ref f1) = true)
    (a2 : PySem.W.nsIn K mainGlobals "is_whole" = some (some (.ref f2))) (l2 : K.lookup f2 = some ⟨oc2, od2, .func (PySem.W.fnOf "is_whole" "is_whole" (defArgs s_is_whole) (defBody s_is_whole) (defScope s_is_whole) .none kV2 dc2 pm2 an2 cd2 ct2), sl2⟩) (c2 : PySem.W.codeIn K cd2 "is_whole" = true) (k2 : PySem.W.keepIn K (.ref f2) = true)
    (a3 : PySem.W.nsIn K mainGlobals "common_divisor" = some (some (.ref f3))) (l3 : K.lookup f3 = some ⟨oc3, od3, .func (PySem.W.fnOf "common_divisor" "common_divisor" (defArgs s_common_divisor) (defBody s_common_divisor) (defScope s_common_divisor) .none kV3 dc3 pm3 an3 cd3 ct3), sl3⟩) (c3 : PySem.W.codeIn K cd3 "common_divisor" = true) (k3 : PySem.W.keepIn K (.ref f3) = true)
    (a4 : PySem.W.nsIn K mainGlobals "shown_whole" = some (some (.ref f4))) (l4 : K.lookup f4 = some ⟨oc4, od4, .func (PySem.W.fnOf "shown_whole" "shown_whole" (defArgs s_shown_whole) (defBody s_shown_whole) (defScope s_shown_whole) .none kV4 dc4 pm4 an4 cd4 ct4), sl4⟩) (c4 : PySem.W.codeIn K cd4 "shown_whole" = true) (k4 : PySem.W.keepIn K (.ref f4) = true)
    (a5 : PySem.W.nsIn K mainGlobals "are_figures" = some (some (.ref f5))) (l5 : K.lookup f5 = some ⟨oc5, od5, .func (PySem.W.fnOf "are_figures" "are_figures" (defArgs s_are_figures) (defBody s_are_figures) (defScope s_are_figures) .none kV5 dc5 pm5 an5 cd5 ct5), sl5⟩) (c5 : PySem.W.codeIn K cd5 "are_figures" = true) (k5 : PySem.W.keepIn K (.ref f5) = true)
    (a6 : PySem.W.nsIn K mainGlobals "read_whole" = some (some (.ref f6))) (l6 : K.lookup f6 = some ⟨oc6, od6, .func (PySem.W.fnOf "read_whole" "read_whole" (defArgs s_read_whole) (defBody s_read_whole) (defScope s_read_whole) .none kV6 dc6 pm6 an6 cd6 ct6), sl6⟩) (c6 : PySem.W.codeIn K cd6 "read_whole" = true) (k6 : PySem.W.keepIn K (.ref f6) = true)
    (a7 : PySem.W.nsIn K mainGlobals "is_fraction" = some (some (.ref f7))) (l7 : K.lookup f7 = some ⟨oc7, od7, .func (PySem.W.fnOf "is_fraction" "is_fraction" (defArgs s_is_fraction) (defBody s_is_fraction) (defScope s_is_fraction) .none kV7 dc7 pm7 an7 cd7 ct7), sl7⟩) (c7 : PySem.W.codeIn K cd7 "is_fraction" = true) (k7 : PySem.W.keepIn K (.ref f7) = true)
    (a8 : PySem.W.nsIn K mainGlobals "shown_fraction" = some (some (.ref f8))) (l8 : K.lookup f8 = some ⟨oc8, od8, .func (PySem.W.fnOf "shown_fraction" "shown_fraction" (defArgs s_shown_fraction) (defBody s_shown_fraction) (defScope s_shown_fraction) .none kV8 dc8 pm8 an8 cd8 ct8), sl8⟩) (c8 : PySem.W.codeIn K cd8 "shown_fraction" = true) (k8 : PySem.W.keepIn K (.ref f8) = true)
    (a9 : PySem.W.nsIn K mainGlobals "read_fraction" = some (some (.ref f9))) (l9 : K.lookup f9 = some ⟨oc9, od9, .func (PySem.W.fnOf "read_fraction" "read_fraction" (defArgs s_read_fraction) (defBody s_read_fraction) (defScope s_read_fraction) .none kV9 dc9 pm9 an9 cd9 ct9), sl9⟩) (c9 : PySem.W.codeIn K cd9 "read_fraction" = true) (k9 : PySem.W.keepIn K (.ref f9) = true)
    (a10 : PySem.W.nsIn K mainGlobals "_law_low" = some (some (.ref f10))) (l10 : K.lookup f10 = some ⟨oc10, od10, .func (PySem.W.fnOf "_law_low" "_law_low" (defArgs s__law_low) (defBody s__law_low) (defScope s__law_low) .none kV10 dc10 pm10 an10 cd10 ct10), sl10⟩) (c10 : PySem.W.codeIn K cd10 "_law_low" = true) (k10 : PySem.W.keepIn K (.ref f10) = true)
    (a11 : PySem.W.nsIn K mainGlobals "_law_number" = some (some (.ref f11))) (l11 : K.lookup f11 = some ⟨oc11, od11, .func (PySem.W.fnOf "_law_number" "_law_number" (defArgs s__law_number) (defBody s__law_number) (defScope s__law_number) .none kV11 dc11 pm11 an11 cd11 ct11), sl11⟩) (c11 : PySem.W.codeIn K cd11 "_law_number" = true) (k11 : PySem.W.keepIn K (.ref f11) = true)
    (a12 : PySem.W.nsIn K mainGlobals "_law_written" = some (some (.ref f12))) (l12 : K.lookup f12 = some ⟨oc12, od12, .func (PySem.W.fnOf "_law_written" "_law_written" (defArgs s__law_written) (defBody s__law_written) (defScope s__law_written) .none kV12 dc12 pm12 an12 cd12 ct12), sl12⟩) (c12 : PySem.W.codeIn K cd12 "_law_written" = true) (k12 : PySem.W.keepIn K (.ref f12) = true)
    (a13 : PySem.W.nsIn K mainGlobals "_law_due" = some (some (.ref f13))) (l13 : K.lookup f13 = some ⟨oc13, od13, .func (PySem.W.fnOf "_law_due" "_law_due" (defArgs s__law_due) (defBody s__law_due) (defScope s__law_due) .none kV13 dc13 pm13 an13 cd13 ct13), sl13⟩) (c13 : PySem.W.codeIn K cd13 "_law_due" = true) (k13 : PySem.W.keepIn K (.ref f13) = true)
    (a14 : PySem.W.nsIn K mainGlobals "_law_said" = some (some (.ref f14))) (l14 : K.lookup f14 = some ⟨oc14, od14, .func (PySem.W.fnOf "_law_said" "_law_said" (defArgs s__law_said) (defBody s__law_said) (defScope s__law_said) .none kV14 dc14 pm14 an14 cd14 ct14), sl14⟩) (c14 : PySem.W.codeIn K cd14 "_law_said" = true) (k14 : PySem.W.keepIn K (.ref f14) = true)
    (a15 : PySem.W.nsIn K mainGlobals "_law_spoilt" = some (some (.ref f15))) (l15 : K.lookup f15 = some ⟨oc15, od15, .func (PySem.W.fnOf "_law_spoilt" "_law_spoilt" (defArgs s__law_spoilt) (defBody s__law_spoilt) (defScope s__law_spoilt) .none kV15 dc15 pm15 an15 cd15 ct15), sl15⟩) (c15 : PySem.W.codeIn K cd15 "_law_spoilt" = true) (k15 : PySem.W.keepIn K (.ref f15) = true)
    (a16 : PySem.W.nsIn K mainGlobals "law" = some (some (.ref f16))) (l16 : K.lookup f16 = some ⟨oc16, od16, .func (PySem.W.fnOf "law" "law" (defArgs s_law) (defBody s_law) (defScope s_law) .none kV16 dc16 pm16 an16 cd16 ct16), sl16⟩) (c16 : PySem.W.codeIn K cd16 "law" = true) (k16 : PySem.W.keepIn K (.ref f16) = true) (z0 : PySem.W.nsIn K mainGlobals "list" = some none) (z1 : PySem.W.nsIn K mainGlobals "len" = some none) (z2 : PySem.W.nsIn K mainGlobals "abs" = some none) (z3 : PySem.W.nsIn K mainGlobals "isinstance" = some none) (z4 : PySem.W.nsIn K mainGlobals "repr" = some none) (z5 : PySem.W.nsIn K mainGlobals "range" = some none) (z6 : PySem.W.nsIn K mainGlobals "int" = some none) (z7 : PySem.W.nsIn K mainGlobals "bool" = some none) (z8 : PySem.W.nsIn K mainGlobals "tuple" = some none) (z9 : PySem.W.nsIn K mainGlobals "str" = some none) (z10 : PySem.W.nsIn K mainGlobals "reversed" = some none) (z11 : PySem.W.nsIn K mainGlobals "all" = some none) :
    ∃ fd : FuncData, (∀ (s : Shared) (v : Value), BindsTo s fd ⟨[v], []⟩ [("_law_script", v)]) ∧ ∀ base : Heap, K.In base → base.Ns mainGlobals mg → FnOk l.prog w K mg base CX0 5 fa fd ["_law_script"] (sp_law K) := by
  have e := hfa.symm.trans (PySem.W.mg_of X G a16)
  cases e
  generalize hcl : (⟨c_EarlyError, c_NoFraction, tok_FIGURES, tok_MOST_FIGURES, tok_PIECE_FIGURES⟩ : Cl) = c
  have T : Txt K mg c := by rw [← hcl]; exact ⟨PySem.W.mg_none_of X G z0, PySem.W.mg_none_of X G z1, PySem.W.mg_none_of X G z2, PySem.W.mg_none_of X G z3, PySem.W.mg_none_of X G z4, PySem.W.mg_none_of X G z5, PySem.W.mg_none_of X G z6, PySem.W.mg_none_of X G z7, PySem.W.mg_none_of X G z8, PySem.W.mg_none_of X G z9, PySem.W.mg_none_of X G z10, PySem.W.mg_none_of X G z11, PySem.W.mg_of X G u_EarlyError, PySem.W.mg_of X G u_NoFraction, PySem.W.mg_of X G u_FIGURES, PySem.W.mg_of X G u_MOST_FIGURES, PySem.W.mg_of X G u_PIECE_FIGURES, x_NoFraction, ⟨ga_NoFraction, gt_NoFraction, su_NoFraction, (by rw [cl_NoFraction]; rfl), kc_NoFraction, kg_NoFraction, kt_NoFraction, ob_NoFraction⟩, ⟨ty_NoFraction, (by rw [cm_NoFraction]; rfl), sb_NoFraction⟩, y0, y1, y2, y3⟩
  have F0 := fun_mk (st := s__law_feed) l0 c0 k0
  have b0 := F0.binds (ps := ["_law_script"]) fun _ _ _ _ _ _ us hl => match us, hl with | [_], _ => rfl
  have G__law_feed : ∀ base : Heap, FnC CX0 l.prog w K mg base 1 "_law_feed" ["_law_script"] (sp_feed K) := fun base => ⟨_, _, ok__law_feed F0 T, PySem.W.mg_of X G a0, k0, b0⟩
  have F1 := fun_mk (st := s__law_draw) l1 c1 k1
  have b1 := F1.binds (ps := ["_law_feed_here", "_law_many"]) fun _ _ _ _ _ _ us hl => match us, hl with | [_, _], _ => rfl
  have G__law_draw : ∀ base : Heap, FnC CX0 l.prog w K mg base 1 "_law_draw" ["_law_feed_here", "_law_many"] (sp_draw) := fun base => ⟨_, _, ok__law_draw F1 T, PySem.W.mg_of X G a1, k1, b1⟩
  have F2 := fun_mk (st := s_is_whole) l2 c2 k2
  have b2 := F2.binds (ps := ["thing"]) fun _ _ _ _ _ _ us hl => match us, hl with | [_], _ => rfl
  have G_is_whole : ∀ base : Heap, FnC CX0 l.prog w K mg base 1 "is_whole" ["thing"] (sp_whole) := fun base => ⟨_, _, ok_is_whole F2 T, PySem.W.mg_of X G a2, k2, b2⟩
  have F3 := fun_mk (st := s_common_divisor) l3 c3 k3
  have b3 := F3.binds (ps := ["number", "above_nought"]) fun _ _ _ _ _ _ us hl => match us, hl with | [_, _], _ => rfl
  have G_common_divisor : ∀ base : Heap, FnC CX0 l.prog w K mg base 1 "common_divisor" ["number", "above_nought"] (sp_cd) := fun base => ⟨_, _, ok_common_divisor F3 T, PySem.W.mg_of X G a3, k3, b3⟩
  have F4 := fun_mk (st := s_shown_whole) l4 c4 k4
  have b4 := F4.binds (ps := ["number"]) fun _ _ _ _ _ _ us hl => match us, hl with | [_], _ => rfl
  have G_shown_whole : ∀ base : Heap, FnC CX0 l.prog w K mg base 1 "shown_whole" ["number"] (sp_shw) := fun base => ⟨_, _, ok_shown_whole F4 T, PySem.W.mg_of X G a4, k4, b4⟩
  have F5 := fun_mk (st := s_are_figures) l5 c5 k5
  have b5 := F5.binds (ps := ["text"]) fun _ _ _ _ _ _ us hl => match us, hl with | [_], _ => rfl
  have G_are_figures : ∀ base : Heap, FnC CX0 l.prog w K mg base 1 "are_figures" ["text"] (sp_aref) := fun base => ⟨_, _, ok_are_figures F5 T, PySem.W.mg_of X G a5, k5, b5⟩
  have F6 := fun_mk (st := s_read_whole) l6 c6 k6
  have b6 := F6.binds (ps := ["text"]) fun _ _ _ _ _ _ us hl => match us, hl with | [_], _ => rfl
  have G_read_whole : ∀ base : Heap, FnC CX0 l.prog w K mg base 2 "read_whole" ["text"] (sp_readw) := fun base => ⟨_, _, ok_read_whole F6 T (G_are_figures base), PySem.W.mg_of X G a6, k6, b6⟩
  have F7 := fun_mk (st := s_is_fraction) l7 c7 k7
  have b7 := F7.binds (ps := ["thing"]) fun _ _ _ _ _ _ us hl => match us, hl with | [_], _ => rfl
  have G_is_fraction : ∀ base : Heap, FnC CX0 l.prog w K mg base 2 "is_fraction" ["thing"] (sp_isf) := fun base => ⟨_, _, ok_is_fraction F7 T (G_is_whole base) (G_common_divisor base), PySem.W.mg_of X G a7, k7, b7⟩
  have F8 := fun_mk (st := s_shown_fraction) l8 c8 k8
  have b8 := F8.binds (ps := ["one"]) fun _ _ _ _ _ _ us hl => match us, hl with | [_], _ => rfl
  have G_shown_fraction : ∀ base : Heap, FnC CX0 l.prog w K mg base 2 "shown_fraction" ["one"] (sp_shf) := fun base => ⟨_, _, ok_shown_fraction F8 T (G_shown_whole base), PySem.W.mg_of X G a8, k8, b8⟩
  have F9 := fun_mk (st := s_read_fraction) l9 c9 k9
  have b9 := F9.binds (ps := ["text"]) fun _ _ _ _ _ _ us hl => match us, hl with | [_], _ => rfl
  have G_read_fraction : ∀ base : Heap, FnC (CX1 l.prog w) l.prog w K mg base 3 "read_fraction" ["text"] (sp_readf c.NoFraction) := fun base => ⟨_, _, ok_read_fraction F9 T (G_read_whole base) (G_is_fraction base), PySem.W.mg_of X G a9, k9, b9⟩
  have F10 := fun_mk (st := s__law_low) l10 c10 k10
  have b10 := F10.binds (ps := ["_law_n", "_law_d"]) fun _ _ _ _ _ _ us hl => match us, hl with | [_, _], _ => rfl
  have G__law_low : ∀ base : Heap, FnC CX0 l.prog w K mg base 1 "_law_low" ["_law_n", "_law_d"] (sp_low) := fun base => ⟨_, _, ok__law_low F10 T, PySem.W.mg_of X G a10, k10, b10⟩
  have F11 := fun_mk (st := s__law_number) l11 c11 k11
  have b11 := F11.binds (ps := ["_law_feed_here", "_law_great"]) fun _ _ _ _ _ _ us hl => match us, hl with | [_, _], _ => rfl
  have G__law_number : ∀ base : Heap, FnC CX0 l.prog w K mg base 2 "_law_number" ["_law_feed_here", "_law_great"] (sp_num) := fun base => ⟨_, _, ok__law_number F11 T (G__law_draw base), PySem.W.mg_of X G a11, k11, b11⟩
  have F12 := fun_mk (st := s__law_written) l12 c12 k12
  have b12 := F12.binds (ps := ["_law_text"]) fun _ _ _ _ _ _ us hl => match us, hl with | [_], _ => rfl
  have G__law_written : ∀ base : Heap, FnC CX0 l.prog w K mg base 1 "_law_written" ["_law_text"] (sp_wr) := fun base => ⟨_, _, ok__law_written F12 T, PySem.W.mg_of X G a12, k12, b12⟩
  have F13 := fun_mk (st := s__law_due) l13 c13 k13
  have b13 := F13.binds (ps := ["_law_text"]) fun _ _ _ _ _ _ us hl => match us, hl with | [_], _ => rfl
  have G__law_due : ∀ base : Heap, FnC CX0 l.prog w K mg base 2 "_law_due" ["_law_text"] (sp_due) := fun base => ⟨_, _, ok__law_due F13 T (G__law_written base) (G__law_low base), PySem.W.mg_of X G a13, k13, b13⟩
  have F14 := fun_mk (st := s__law_said) l14 c14 k14
  have b14 := F14.binds (ps := ["_law_text"]) fun _ _ _ _ _ _ us hl => match us, hl with | [_], _ => rfl
  have G__law_said : ∀ base : Heap, FnC CX0 l.prog w K mg base 4 "_law_said" ["_law_text"] (sp_said) := fun base => ⟨_, _, ok__law_said F14 T (G_read_fraction base), PySem.W.mg_of X G a14, k14, b14⟩
  have F15 := fun_mk (st := s__law_spoilt) l15 c15 k15
  have b15 := F15.binds (ps := ["_law_feed_here", "_law_text"]) fun _ _ _ _ _ _ us hl => match us, hl with | [_, _], _ => rfl
  have G__law_spoilt : ∀ base : Heap, FnC CX0 l.prog w K mg base 2 "_law_spoilt" ["_law_feed_here", "_law_text"] (sp_spoilt) := fun base => ⟨_, _, ok__law_spoilt F15 T (G__law_draw base), PySem.W.mg_of X G a15, k15, b15⟩
  have F16 := fun_mk (st := s_law) l16 c16 k16
  exact ⟨_, fun s v => .of_eq rfl, fun base _ _ => ok_law F16 T (G__law_feed base) (G__law_draw base) (G__law_low base) (G__law_number base) (G_shown_fraction base) (G__law_said base) (G__law_spoilt base) (G__law_due base)⟩
end Kw
open PySem PySem.W PyProof.Rows
set_option maxRecDepth 100000 in
set_option maxHeartbeats 0 in
theorem PySem.Challenge.cw_earlystop_k04_fractions_written_holds : PySem.Challenge.rw_earlystop_k04_fractions_written.Holds := by
  w_on; o_law; k_head; (case hw => w_witness2)
  k_fill
  refine L2.walk_ofK (l := PySem.Challenge.rw_earlystop_k04_fractions_written) (n := 63) (k := 5) (x := "_law_script") (CX := L2.CX0) (sp := fun K => Kw.sp_law K) rfl (by decide) rfl ⟨rfl, by decide, by decide, rfl⟩ (fun w h Y => PySem.W.kIn_of Y) ?F (fun K H a ns hl _ hS => Kw.sp_law_i hS hl) (fun _ _ _ _ z => z)
  case F =>
    intro w mg fa h KX G hmg
    refine' Kw.all_mk KX G hmg ?u_EarlyError ?u_NoFraction ?u_FIGURES ?u_MOST_FIGURES ?u_PIECE_FIGURES ?x_NoFraction ?ga_NoFraction ?gt_NoFraction ?su_NoFraction ?cl_NoFraction ?kc_NoFraction ?kg_NoFraction ?kt_NoFraction ?ob_NoFraction ?ty_NoFraction ?cm_NoFraction ?sb_NoFraction ?y0 ?y1 ?y2 ?y3 ?a0 ?l0 ?c0 ?k0 ?a1 ?l1 ?c1 ?k1 ?a2 ?l2 ?c2 ?k2 ?a3 ?l3 ?c3 ?k3 ?a4 ?l4 ?c4 ?k4 ?a5 ?l5 ?c5 ?k5 ?a6 ?l6 ?c6 ?k6 ?a7 ?l7 ?c7 ?k7 ?a8 ?l8 ?c8 ?k8 ?a9 ?l9 ?c9 ?k9 ?a10 ?l10 ?c10 ?k10 ?a11 ?l11 ?c11 ?k11 ?a12 ?l12 ?c12 ?k12 ?a13 ?l13 ?c13 ?k13 ?a14 ?l14 ?c14 ?k14 ?a15 ?l15 ?c15 ?k15 ?a16 ?l16 ?c16 ?k16 ?z0 ?z1 ?z2 ?z3 ?z4 ?z5 ?z6 ?z7 ?z8 ?z9 ?z10 ?z11
    (case u_EarlyError => k_is); (case u_NoFraction => k_is); (case u_FIGURES => k_is); (case u_MOST_FIGURES => k_is); (case u_PIECE_FIGURES => k_is); (case x_NoFraction => k_exc); (case ga_NoFraction => k_is); (case gt_NoFraction => k_is); (case su_NoFraction => k_is); (case cl_NoFraction => k_is); (case kc_NoFraction => k_is); (case kg_NoFraction => k_is); (case kt_NoFraction => k_is); (case ob_NoFraction => k_is); (case ty_NoFraction => k_is); (case cm_NoFraction => k_is); (case sb_NoFraction => k_is); (case y0 => k_is); (case y1 => kit_is); (case y2 => kernel_rfl); (case y3 => k_is); (case a0 => k_is); (case l0 => k_is); (case c0 => k_is); (case k0 => k_is); (case a1 => k_is); (case l1 => k_is); (case c1 => k_is); (case k1 => k_is); (case a2 => k_is); (case l2 => k_is); (case c2 => k_is); (case k2 => k_is); (case a3 => k_is); (case l3 => k_is); (case c3 => k_is); (case k3 => k_is); (case a4 => k_is); (case l4 => k_is); (case c4 => k_is); (case k4 => k_is); (case a5 => k_is); (case l5 => k_is); (case c5 => k_is); (case k5 => k_is); (case a6 => k_is); (case l6 => k_is); (case c6 => k_is); (case k6 => k_is); (case a7 => k_is); (case l7 => k_is); (case c7 => k_is); (case k7 => k_is); (case a8 => k_is); (case l8 => k_is); (case c8 => k_is); (case k8 => k_is); (case a9 => k_is); (case l9 => k_is); (case c9 => k_is); (case k9 => k_is); (case a10 => k_is); (case l10 => k_is); (case c10 => k_is); (case k10 => k_is); (case a11 => k_is); (case l11 => k_is); (case c11 => k_is); (case k11 => k_is); (case a12 => k_is); (case l12 => k_is); (case c12 => k_is); (case k12 => k_is); (case a13 => k_is); (case l13 => k_is); (case c13 => k_is); (case k13 => k_is); (case a14 => k_is); (case l14 => k_is); (case c14 => k_is); (case k14 => k_is); (case a15 => k_is); (case l15 => k_is); (case c15 => k_is); (case k15 => k_is); (case a16 => k_is); (case l16 => k_is); (case c16 => k_is); (case k16 => k_is); (case z0 => k_is); (case z1 => k_is); (case z2 => k_is); (case z3 => k_is); (case z4 => k_is); (case z5 => k_is); (case z6 => k_is); (case z7 => k_is); (case z8 => k_is); (case z9 => k_is); (case z10 => k_is); (case z11 => k_is)

