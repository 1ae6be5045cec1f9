import PyProof.Rows.All
import Wide.All
import OpenK.AllK
import Wide.FinOn
import Lean
import PyProof.EqAt
import PyProof.EqKinds
import PyProof.TupleCall
import KE.IntBitsLaws
import PyProof.NeKinds
import KE.KIsAll
import PyProof.ExcAttrAll.ValueError
import KE.RegKIsAll
import OpenK.KOwn
import PyProof.ConsumeWalk
import PyProof.SumWalkG
import PyProof.Rows.SeqCalls
import PyProof.Rows.SeqGen
import PyProof.ZipIter
import PyProof.Rows.ZipGen
import PyProof.Rows.FactsT2
import PyProof.WalkInts
import PyProof.SeqI3
import PyProof.AutoSeq1
import KE.KRevSl
import PyProof.WalksEnum
import PyProof.EnumMake
import PyProof.ListRange
import KE.KDictSum
import PyProof.Rows.SortWalk
import KE.KDictLaws
import PyProof.Rows.SetFrom
import PyProof.SetRoads
import PyProof.DictWalks
import PySem.Challenge.RW_hideworth_k49_whole_costs_stay
set_option Elab.async false
set_option linter.all false
set_option maxRecDepth 100000
/-! THE HAND LAYER, for ints, bools, texts, own classes, LISTS and tuples (index, slices, in, append, pop ..), calls, loops. Paste it whole ahead of your own text; what your proof does not reach may be deleted. -/
namespace L2
open PySem PySem.Spec PyProof.Rows

/-- a key: an int or a str -/
abbrev Key := Sum Int Str
def keyIs : Key → Value → Bool
  | .inl k, v => Value.isInt k v
  | .inr x, v => Value.isStrOf x v
def keyH (w : World) : Key → Int
  | .inl k => hashInt k
  | .inr x => hashStr w x
theorem keyIs_shape : ∀ {k : Key} {v : Value}, keyIs k v = true → (∃ i t, k = Sum.inl i ∧ v = Value.int i t) ∨ (∃ x t, k = Sum.inr x ∧ v = Value.str x t)
  | .inl i, v, h => by
    obtain ⟨t, e⟩ := Value.isInt_shape (k := i) (v := v) h
    exact .inl ⟨i, t, rfl, e⟩
  | .inr x, v, h => by
    obtain ⟨t, e⟩ := Value.isStrOf_shape (x := x) (v := v) h
    exact .inr ⟨x, t, rfl, e⟩
theorem keyIs_int (i : Int) (t : Tok) : keyIs (.inl i) (.int i t) = true := by simp [keyIs, Value.isInt]
theorem keyIs_str (x : Str) (t : Tok) : keyIs (.inr x) (.str x t) = true := by simp [keyIs, Value.isStrOf]
theorem key_ll (a b : Int) : decide ((Sum.inl a : Key) = Sum.inl b) = (a == b) := by
  by_cases e : a = b
  · subst e; simp
  · have h : ¬ (Sum.inl a : Key) = Sum.inl b := fun q => e (Sum.inl.inj q)
    rw [decide_eq_false h]
    exact (beq_eq_false_iff_ne.mpr e).symm
theorem key_rr (a b : Str) : decide ((Sum.inr a : Key) = Sum.inr b) = decide (a = b) := by
  by_cases e : a = b
  · subst e; simp
  · have h : ¬ (Sum.inr a : Key) = Sum.inr b := fun q => e (Sum.inr.inj q)
    rw [decide_eq_false h, decide_eq_false e]
theorem key_lr (a : Int) (b : Str) : decide ((Sum.inl a : Key) = Sum.inr b) = false := decide_eq_false (fun q => nomatch q)
theorem key_rl (a : Str) (b : Int) : decide ((Sum.inr a : Key) = Sum.inl b) = false := decide_eq_false (fun q => nomatch q)

def mixKind (prog : Program) (w : World) : PySem.KeyKind prog w Key where
  is := keyIs
  hash := keyH w
  inj := fun v a b ha hb => by
    rcases keyIs_shape ha with ⟨i, t, rfl, rfl⟩ | ⟨x, t, rfl, rfl⟩
    · rcases keyIs_shape hb with ⟨j, u, rfl, e⟩ | ⟨y, u, rfl, e⟩
      · injection e with e1 _; rw [e1]
      · exact nomatch e
    · rcases keyIs_shape hb with ⟨j, u, rfl, e⟩ | ⟨y, u, rfl, e⟩
      · exact nomatch e
      · injection e with e1 _; rw [e1]
  byValue := fun k v h => by
    rcases keyIs_shape h with ⟨i, t, rfl, rfl⟩ | ⟨x, t, rfl, rfl⟩ <;> rfl
  pyHash := fun hv h => by
    rcases keyIs_shape hv with ⟨i, t, rfl, rfl⟩ | ⟨x, t, rfl, rfl⟩
    · exact wpAny_pyHash_int h
    · exact wpAny_pyHash_str h
  eqBool := fun hu hv h => by
    rcases keyIs_shape hu with ⟨i, t, rfl, rfl⟩ | ⟨x, t, rfl, rfl⟩
    · rcases keyIs_shape hv with ⟨j, u, rfl, rfl⟩ | ⟨y, u, rfl, rfl⟩
      · rw [key_ll] at h; exact wpAny_eqBool_int h
      · rw [key_lr] at h; exact SeqAt.EqAt.int_str i t y u _ _ _ _ h
    · rcases keyIs_shape hv with ⟨j, u, rfl, rfl⟩ | ⟨y, u, rfl, rfl⟩
      · rw [key_rl] at h; exact SeqAt.EqAt.str_int x t j u _ _ _ _ h
      · rw [key_rr] at h; exact wpAny_eqBool_str h
  «strs» := fun k x t v h => by
    rcases keyIs_shape h with ⟨i, u, rfl, e⟩ | ⟨y, u, rfl, e⟩
    · exact nomatch e
    · injection e with e1 _
      subst e1
      cases v <;> rfl

theorem mixKind_int (prog : Program) (w : World) (i : Int) (t : Tok) : (mixKind prog w).is (.inl i) (.int i t) = true := keyIs_int i t
theorem mixKind_str (prog : Program) (w : World) (x : Str) (t : Tok) : (mixKind prog w).is (.inr x) (.str x t) = true := keyIs_str x t
end L2

namespace L2
open PySem PySem.Spec PyProof.Rows

/-- a value, without the heap -/
inductive V where
  | non | bl (b : Bool) | int (i : Int) | str (x : Str) | byt (b : Array UInt8) | flt (b : UInt64) | ref (a : Addr) | ty (n : String)
  deriving DecidableEq

def RelV : V → Value → Prop
  | .non, u => u = Value.none
  | .bl b, u => u = Value.bool b
  | .int i, u => ∃ t, u = Value.int i t
  | .str x, u => ∃ t, u = Value.str x t
  | .byt b, u => ∃ t, u = Value.bytes b t
  | .flt b, u => ∃ t, u = Value.float b t
  | .ref a, u => u = Value.ref a
  | .ty n, u => u = Value.type n

abbrev Vals : List V → List Value → Prop := Paired RelV
theorem Vals.length {xs : List V} {us : List Value} (r : Vals xs us) : xs.length = us.length := Paired.length r
theorem Vals.get : ∀ {xs : List V} {us : List Value} {i : Nat} {x : V}, Vals xs us → xs[i]? = some x → ∃ u, us[i]? = some u ∧ RelV x u
  | _, _, _, _, .nil, e => by simp at e
  | _, _, 0, _, .cons r _, e => by simp at e; subst e; exact ⟨_, rfl, r⟩
  | _, _, i + 1, x, .cons _ t, e => by
    obtain ⟨u, h1, h2⟩ := Vals.get (i := i) (x := x) t (by simpa using e)
    exact ⟨u, by simpa using h1, h2⟩
theorem Vals.set {x : V} {u : Value} (r : RelV x u) : ∀ {xs : List V} {us : List Value} (i : Nat), Vals xs us → Vals (xs.set i x) (us.set i u)
  | _, _, _, .nil => .nil
  | _, _, 0, .cons _ t => .cons r t
  | _, _, i + 1, .cons q t => .cons q (Vals.set r i t)
theorem Vals.append : ∀ {xs ys : List V} {us ws : List Value}, Vals xs us → Vals ys ws → Vals (xs ++ ys) (us ++ ws)
  | _, _, _, _, .nil, s => s
  | _, _, _, _, .cons r t, s => .cons r (Vals.append t s)
theorem Vals.take : ∀ {xs : List V} {us : List Value} (n : Nat), Vals xs us → Vals (xs.take n) (us.take n)
  | _, _, 0, _ => .nil
  | _, _, _ + 1, .nil => .nil
  | _, _, n + 1, .cons r t => .cons r (Vals.take n t)
def RelO : Option V → Option Value → Prop
  | some v, some u => RelV v u
  | none, none => True
  | _, _ => False
def KV {κ : Type} : List (κ × V) → List (κ × Value) → Prop := Paired fun (p : κ × V) (q : κ × Value) => p.1 = q.1 ∧ RelV p.2 q.2

/-- a key of a dict (00_mix): an int or a text -/
def kV : Key → V
  | .inl i => .int i
  | .inr x => .str x

/-- what stands at a tracked address -/
inductive HO where
  /-- a list -/
  | lst (xs : List V)
  /-- a tuple (never changes) -/
  | tup (xs : List V)
  /-- a dict whose keys are ints and texts; one whose keys are tuples of ints and texts (the empty one is both) -/
  | dK (kvs : List (Key × V)) | dT (kvs : List (List Key × V))
  /-- a set of ints: its members, its size -/
  | set (S : Int → Bool) (n : Nat)
  /-- an instance of the class at C, its dict at dx, its attributes -/
  | ins (C dx : Addr) (fs : List (Str × V))
  /-- the dict of the instance at x -/
  | own (x : Addr)
  /-- the dict of an exception -/
  | xd (fs : List (Str × V))
  /-- a bound method, f of x -/
  | met (f x : Addr)
  /-- a range object lo, lo + 1, .. below hi -/
  | rng (lo hi : Int)
  /-- a thing that is known to the object (the script; a dict while a loop walks it): read, never written while it is so -/
  | frz (o : Obj) (u : HO)
  /-- a code object's table -/
  | tbl (ps : Array Value)
  /-- any other thing, by what is true of its one object (a def of one's own: SetO a S n := HO.ext fun h => ..) -/
  | ext (φ : Heap → Prop)

abbrev Hp := Addr → Option HO
def upd (H : Hp) (a : Addr) (o : HO) : Hp := fun b => if b = a then some o else H b
theorem upd_same {H : Hp} {a : Addr} {o : HO} : upd H a o a = some o := by unfold upd; rw [if_pos rfl]
theorem upd_ne {H : Hp} {a b : Addr} {o : HO} (h : b ≠ a) : upd H a o b = H b := by unfold upd; rw [if_neg h]
theorem upd_upd {H : Hp} {a : Addr} {o u : HO} : upd (upd H a o) a u = upd H a u := by
  funext b; unfold upd; split <;> rfl
/-- two objects of different content stand apart -/
theorem ne_of {H : Hp} {a b : Addr} {o u : HO} (h : H a = some o) (h' : H b = some u) (d : o ≠ u) : a ≠ b := by
  intro e; subst e; rw [h] at h'; exact d (Option.some.inj h')
theorem ne_of_none {H : Hp} {a b : Addr} {o : HO} (h : H a = some o) (h' : H b = none) : a ≠ b := by
  intro e; subst e; rw [h] at h'; cases h'

section
variable (P : Program) (w : World)
def ObjOk (H : Hp) (h : Heap) (a : Addr) : HO → Prop
  | .lst xs => xs.length ≤ sizeLine ∧ ∃ (its : List Value) (n : Nat), Vals xs its ∧ h.get? a = some { cls := .type "list", data := .seq its.toArray n }
  | .tup xs => xs.length ≤ sizeLine ∧ ∃ its : List Value, Vals xs its ∧ IsTup h a its.toArray
  | .dK kvs => kvs.length ≤ sizeLine ∧ (a == sysModules) = false ∧ ∃ vs, KV kvs vs ∧ h.DictOf (mixKind P w) a vs
  | .dT kvs => kvs.length ≤ sizeLine ∧ (a == sysModules) = false ∧ ∃ xs : List (List Key × Addr × Value),
      Paired (fun (p : List Key × V) (q : List Key × Addr × Value) => p.1 = q.1 ∧ H q.2.1 = some (.tup (p.1.map kV)) ∧ RelV p.2 q.2.2) kvs xs ∧
      ∃ o es ep, h.get? a = some o ∧ o.ExactDict ∧ o.data = .dict es ep ∧ es.toList = xs.map (entryOfKey (tupleKind (mixKind P w))) ∧ (xs.map (·.1)).Nodup
  | .set S n => h.SetOf (intKind P w) a S n
  | .ins C dx fs => H dx = some (.own a) ∧ fs.length ≤ 1000 ∧ dx ≠ a ∧ h.get? a = some (PySem.W.instObj C dx) ∧
      ∃ mA, h.Ns1 dx mA ∧ (∀ f, RelO (fs.lookup f) (mA f)) ∧ PySem.Within mA (fs.map (·.1))
  | .own _ => ∃ o, h.get? a = some o
  | .xd fs => ∃ mA, h.Ns1 a mA ∧ ∀ f, RelO (fs.lookup f) (mA f)
  | .rng lo hi => ∃ t u v, h.get? a = some { cls := .type "range", data := .fields #[.int lo t, .int hi u, .int 1 v] }
  | .frz o u => h.get? a = some o ∧ ObjOk H h a u
  | .tbl ps => h.get? a = some { cls := .none, data := .fields ps }
  | .met f x => h.get? a = some (PySem.W.methodObj (.ref f) (.ref x))
  | .ext φ => φ h ∧ (∃ o, h.get? a = some o) ∧ ∀ h1 h2 : Heap, φ h1 → (∀ o, h1.get? a = some o → h2.get? a = some o) → φ h2
/-- the abstract heap is held -/
def HOk (H : Hp) (h : Heap) : Prop := ∀ a o, H a = some o → ObjOk P w H h a o
end

section
variable {P : Program} {w : World} {H H' : Hp} {h h' : Heap} {a : Addr} {o : HO}
theorem ObjOk.lt (x : ObjOk P w H h a o) : a < h.objs.size := by
  cases o with
  | lst xs => obtain ⟨_, _, _, _, e⟩ := x; exact Heap.lt_size e
  | tup xs => obtain ⟨_, _, _, p⟩ := x; exact p.lt
  | dK kvs => obtain ⟨_, _, _, _, o, _, _, e, _⟩ := x; exact Heap.lt_size e
  | dT kvs => obtain ⟨_, _, _, _, o, _, _, e, _⟩ := x; exact Heap.lt_size e
  | set S n => obtain ⟨o, _, _, _, e, _⟩ := x; exact Heap.lt_size e
  | ins C dx fs => obtain ⟨_, _, _, e, _⟩ := x; exact Heap.lt_size e
  | own y => obtain ⟨_, e⟩ := x; exact Heap.lt_size e
  | xd fs => obtain ⟨_, ⟨_, _, _, e, _⟩, _⟩ := x; exact Heap.lt_size e
  | rng lo hi => obtain ⟨_, _, _, e⟩ := x; exact Heap.lt_size e
  | frz ob u => obtain ⟨e, _⟩ := x; exact Heap.lt_size e
  | tbl ps => exact Heap.lt_size (show h.get? a = some _ from x)
  | met f y => exact Heap.lt_size (show h.get? a = some _ from x)
  | ext φ => obtain ⟨_, ⟨_, e⟩, _⟩ := x; exact Heap.lt_size e
theorem Paired.mapP {α β : Type} {F G : α → β → Prop} : ∀ {l₁ : List α} {l₂ : List β}, Paired F l₁ l₂ → (∀ a b, F a b → G a b) → Paired G l₁ l₂
  | _, _, .nil, _ => .nil
  | _, _, .cons r t, f => .cons (f _ _ r) (Paired.mapP t f)
/-- what an object's description leans on: its own object, its own dict, the tuples -/
theorem ObjOk.stay (x : ObjOk P w H h a o) (k : ∀ b u, (b = a ∨ H b = some (.own a)) → h.get? b = some u → h'.get? b = some u)
    (ho : ∀ b, H b = some (.own a) → H' b = some (.own a)) (ht : ∀ b xs, H b = some (.tup xs) → H' b = some (.tup xs)) : ObjOk P w H' h' a o := by
  induction o with
  | lst xs => obtain ⟨z, its, n, r, e⟩ := x; exact ⟨z, its, n, r, k _ _ (.inl rfl) e⟩
  | tup xs => obtain ⟨z, its, r, ob, e, c⟩ := x; exact ⟨z, its, r, ob, k _ _ (.inl rfl) e, c⟩
  | dK kvs => obtain ⟨z, y, vs, r, ob, es, ep, e, c⟩ := x; exact ⟨z, y, vs, r, ob, es, ep, k _ _ (.inl rfl) e, c⟩
  | dT kvs =>
    obtain ⟨z, y, xs, r, ob, es, ep, e, c⟩ := x
    exact ⟨z, y, xs, Paired.mapP r fun p q z => ⟨z.1, ht _ _ z.2.1, z.2.2⟩, ob, es, ep, k _ _ (.inl rfl) e, c⟩
  | set S n => obtain ⟨ob, es, ep, t, e, c⟩ := x; exact ⟨ob, es, ep, t, k _ _ (.inl rfl) e, c⟩
  | ins C dx fs =>
    obtain ⟨d, z, ne, e, mA, ⟨od, es, ep, e2, c⟩, r⟩ := x
    exact ⟨ho _ d, z, ne, k _ _ (.inl rfl) e, mA, ⟨od, es, ep, k _ _ (.inr d) e2, c⟩, r⟩
  | own y => obtain ⟨ob, e⟩ := x; exact ⟨ob, k _ _ (.inl rfl) e⟩
  | xd fs => obtain ⟨mA, ⟨od, es, ep, e, c⟩, r⟩ := x; exact ⟨mA, ⟨od, es, ep, k _ _ (.inl rfl) e, c⟩, r⟩
  | rng lo hi => obtain ⟨t, u, v, e⟩ := x; exact ⟨t, u, v, k _ _ (.inl rfl) e⟩
  | frz ob u ih => obtain ⟨e, q⟩ := x; exact ⟨k _ _ (.inl rfl) e, ih q⟩
  | tbl ps =>
    have e : h.get? a = some { cls := .none, data := .fields ps } := x
    show h'.get? a = some { cls := .none, data := .fields ps }
    exact k a _ (.inl rfl) e
  | met f y =>
    have e : h.get? a = some (PySem.W.methodObj (.ref f) (.ref y)) := x
    show h'.get? a = some (PySem.W.methodObj (.ref f) (.ref y))
    exact k a _ (.inl rfl) e
  | ext φ => obtain ⟨p, ⟨o, e⟩, st⟩ := x; exact ⟨st _ _ p fun o q => k _ _ (.inl rfl) q, ⟨o, k _ _ (.inl rfl) e⟩, st⟩
theorem HOk.lt (x : HOk P w H h) (e : H a = some o) : a < h.objs.size := (x a o e).lt
theorem HOk.fresh (x : HOk P w H h) (e : h.objs.size ≤ a) : H a = none := by
  cases q : H a with
  | none => rfl
  | some u => exact absurd (Nat.lt_of_lt_of_le (x.lt q) e) (Nat.lt_irrefl _)
/-- every object of the heap is kept -/
theorem HOk.kept (x : HOk P w H h) (k : ∀ b u, h.get? b = some u → h'.get? b = some u) : HOk P w H h' := fun a o e =>
  (x a o e).stay (fun b u _ q => k b u q) (fun _ q => q) fun _ _ q => q
/-- a new object is laid and tracked -/
theorem HOk.laid (x : HOk P w H h) (k : ∀ b u, h.get? b = some u → h'.get? b = some u) (hp : h.objs.size ≤ a) (new : ObjOk P w (upd H a o) h' a o) : HOk P w (upd H a o) h' := fun b u e => by
  have hn := x.fresh hp
  by_cases hb : b = a
  · subst hb; rw [upd_same] at e; cases e; exact new
  · rw [upd_ne hb] at e
    exact (x b u e).stay (fun c v _ q => k c v q) (fun c q => by rw [upd_ne (ne_of_none q hn)]; exact q) fun c xs q => by rw [upd_ne (ne_of_none q hn)]; exact q
end

/-- what may be read as u: it is u, or a known u -/
def Rd (H : Hp) (a : Addr) (u : HO) : Prop := H a = some u ∨ ∃ o, H a = some (.frz o u)
theorem Rd.of {H : Hp} {a : Addr} {u : HO} (h : H a = some u) : Rd H a u := .inl h
theorem Rd.ok {P : Program} {w : World} {H : Hp} {h : Heap} {a : Addr} {u : HO} (r : Rd H a u) (x : HOk P w H h) : ObjOk P w H h a u := by
  rcases r with r | ⟨o, r⟩
  · exact x a u r
  · obtain ⟨_, q⟩ := x a _ r
    exact q
/-- what may be written -/
def Mut : Option HO → Prop
  | some (.lst _) => True
  | some (.dK _) => True
  | some (.dT _) => True
  | some (.set _ _) => True
  | some (.ins _ _ _) => True
  | some (.ext _) => True
  | _ => False
section
variable {P : Program} {w : World} {H : Hp} {h h' : Heap} {x e : Addr} {o' : HO}
/-- the object at e is changed: x itself, or the dict of the instance x -/
theorem HOk.write (ok : HOk P w H h) (mu : Mut (H x)) (he : e = x ∨ H e = some (.own x)) (k : ∀ b u, b ≠ e → h.get? b = some u → h'.get? b = some u) (heo : ∃ u, h'.get? e = some u)
    (new : ObjOk P w (upd H x o') h' x o') : HOk P w (upd H x o') h' := fun b u q => by
  have nown : ∀ c y, H c = some (.own y) → c ≠ x := fun c y r z => by subst z; rw [r] at mu; exact mu
  have ntup : ∀ c xs, H c = some (.tup xs) → c ≠ x := fun c xs r z => by subst z; rw [r] at mu; exact mu
  by_cases hb : b = x
  · subst hb; rw [upd_same] at q; cases q; exact new
  · rw [upd_ne hb] at q
    by_cases hbe : b = e
    · have q' : H b = some (.own x) := by
        rcases he with z | z
        · exact absurd (hbe.trans z) hb
        · rw [hbe]; exact z
      rw [q] at q'; cases q'
      obtain ⟨v, hv⟩ := heo
      exact ⟨v, by rw [hbe]; exact hv⟩
    · refine (ok b u q).stay (fun c v hc r => k c v ?_ r) (fun c r => by rw [upd_ne (nown c b r)]; exact r) fun c xs r => by rw [upd_ne (ntup c xs r)]; exact r
      rcases hc with rfl | hc
      · exact hbe
      · rintro rfl
        rcases he with z | z
        · exact nown c b hc z
        · rw [hc] at z; cases z; exact hb rfl
end

/-! ### kept unless tracked; of the frames at fs (the callers') the slots may change (an exception that passes writes there); of the records at ex (iterators) nothing is said -/
structure Un (fs ex : List Addr) (H H' : Hp) (h h' : Heap) : Prop where
  keep : ∀ b o, h.get? b = some o → H b = none → b ∉ fs → b ∉ ex → h'.get? b = some o
  slot : ∀ b o, h.get? b = some o → H b = none → b ∈ fs → b ∉ ex → ∃ sl, h'.get? b = some { o with slots := sl }
  free : ∀ b o, h.get? b = some o → H b = none → b ∉ ex → H' b = none
  there : ∀ b o, h.get? b = some o → b ∉ ex → ∃ o', h'.get? b = some o'
  tups : ∀ b xs, H b = some (.tup xs) → H' b = some (.tup xs)
  frzs : ∀ b o u, H b = some (.frz o u) → H' b = some (.frz o u)
  tbls : ∀ b ps, H b = some (.tbl ps) → ∃ more, H' b = some (.tbl (ps ++ more))
section
variable {fs fs' ex ex' : List Addr} {H H1 H2 : Hp} {h h1 h2 h' : Heap} {a x e : Addr} {o : HO}
theorem Un.any (u : Un fs ex H H1 h h1) {b : Addr} {ob : Obj} (q : h.get? b = some ob) (n : H b = none) (hx : b ∉ ex) : ∃ sl, h1.get? b = some { ob with slots := sl } := by
  by_cases hb : b ∈ fs
  · exact u.slot b ob q n hb hx
  · exact ⟨ob.slots, u.keep b ob q n hb hx⟩
theorem Un.trans (a : Un fs ex H H1 h h1) (b : Un fs ex H1 H2 h1 h2) : Un fs ex H H2 h h2 where
  keep := fun c ob q n hc hx => b.keep c ob (a.keep c ob q n hc hx) (a.free c ob q n hx) hc hx
  slot := fun c ob q n hc hx => by
    obtain ⟨sl, e1⟩ := a.slot c ob q n hc hx
    obtain ⟨sl', e2⟩ := b.slot c _ e1 (a.free c ob q n hx) hc hx
    exact ⟨sl', e2⟩
  free := fun c ob q n hx => by
    obtain ⟨o', e1⟩ := a.there c ob q hx
    exact b.free c o' e1 (a.free c ob q n hx) hx
  there := fun c ob q hx => by
    obtain ⟨o', e1⟩ := a.there c ob q hx
    exact b.there c o' e1 hx
  tups := fun c xs q => b.tups c xs (a.tups c xs q)
  frzs := fun c ob xs q => b.frzs c ob xs (a.frzs c ob xs q)
  tbls := fun c ps q => by
    obtain ⟨m1, e1⟩ := a.tbls c ps q
    obtain ⟨m2, e2⟩ := b.tbls c _ e1
    exact ⟨m1 ++ m2, by rw [e2, Array.append_assoc]⟩
theorem Un.kept (k : ∀ b u, h.get? b = some u → h'.get? b = some u) : Un fs ex H H h h' :=
  ⟨fun b ob q _ _ _ => k b ob q, fun b ob q _ _ _ => ⟨ob.slots, k b ob q⟩, fun _ _ _ n _ => n, fun b ob q _ => ⟨ob, k b ob q⟩, fun _ _ q => q, fun _ _ _ q => q, fun _ ps q => ⟨#[], by rw [q]; simp⟩⟩
theorem Un.refl : Un fs ex H H h h := Un.kept fun _ _ q => q
theorem Un.laid (k : ∀ b u, h.get? b = some u → h'.get? b = some u) (hp : h.objs.size ≤ a) (hn : H a = none) : Un fs ex H (upd H a o) h h' where
  keep := fun b u q _ _ _ => k b u q
  slot := fun b u q _ _ _ => ⟨u.slots, k b u q⟩
  free := fun b u q n _ => by rw [upd_ne (Nat.ne_of_lt (Nat.lt_of_lt_of_le (Heap.lt_size q) hp))]; exact n
  there := fun b u q _ => ⟨u, k b u q⟩
  tups := fun b xs q => by rw [upd_ne (ne_of_none q hn)]; exact q
  frzs := fun b u xs q => by rw [upd_ne (ne_of_none q hn)]; exact q
  tbls := fun b ps q => ⟨#[], by rw [upd_ne (ne_of_none q hn), q]; simp⟩
theorem Un.write (mu : Mut (H x)) (he : e = x ∨ H e = some (.own x)) (k : ∀ b u, b ≠ e → h.get? b = some u → h'.get? b = some u) (heo : ∃ u, h'.get? e = some u) : Un fs ex H (upd H x o) h h' := by
  have hx : ∀ b, H b = none → b ≠ x := fun b n z => by subst z; rw [n] at mu; exact mu
  have hb : ∀ b, H b = none → b ≠ e := fun b n z => by
    subst z
    rcases he with r | r
    · exact hx b n r
    · rw [n] at r; cases r
  have hm : ∀ b u, H b = some u → ¬ Mut (some u) → b ≠ x := fun b u q nm z => by subst z; rw [q] at mu; exact nm mu
  refine ⟨fun b u q n _ _ => k b u (hb b n) q, fun b u q n _ _ => ⟨u.slots, k b u (hb b n) q⟩, fun b u q n _ => by rw [upd_ne (hx b n)]; exact n, fun b u q _ => ?_,
    fun b xs q => by rw [upd_ne (hm b _ q fun z => z)]; exact q, fun b u xs q => by rw [upd_ne (hm b _ q fun z => z)]; exact q, fun b ps q => ⟨#[], by rw [upd_ne (hm b _ q fun z => z), q]; simp⟩⟩
  by_cases hbe : b = e
  · subst hbe; exact heo
  · exact ⟨u, k b u hbe q⟩
theorem Un.mono (u : Un fs ex H H1 h h1) (hs : ∀ b ∈ fs, b ∈ fs') (hx : ∀ b ∈ ex, b ∈ ex') : Un fs' ex' H H1 h h1 :=
  ⟨fun b ob q n hb he => u.keep b ob q n (fun z => hb (hs b z)) fun z => he (hx b z), fun _ _ q n _ he => u.any q n fun z => he (hx _ z), fun b ob q n he => u.free b ob q n fun z => he (hx b z), fun b ob q he => u.there b ob q fun z => he (hx b z), u.tups, u.frzs, u.tbls⟩
end

/-! ### the heap without what is tracked -/
def trk (h : Heap) (H : Hp) : List Addr := (List.range h.objs.size).filter fun a => (H a).isSome
def hidT (h : Heap) (H : Hp) : Heap := PySem.W.hideAll h (trk h H)
theorem hidT_size (h : Heap) (H : Hp) : (hidT h H).objs.size = h.objs.size := PySem.W.hideAll_size _ _
theorem hidT_get {h : Heap} {H : Hp} {b : Addr} {o : Obj} (e : h.get? b = some o) (n : H b = none) : (hidT h H).get? b = some o :=
  PySem.W.hideAll_get _ e fun hm => by
    have q : (H b).isSome = true := (List.mem_filter.mp hm).2
    rw [n] at q; simp at q
theorem of_hidT {h : Heap} {H : Hp} {b : Addr} {o : Obj} (e : (hidT h H).get? b = some o) : h.get? b = some o ∧ H b = none := by
  have e' : h.get? b = some o := PySem.W.of_hideAll (trk h H) e
  refine ⟨e', ?_⟩
  cases q : H b with
  | none => rfl
  | some x =>
    have hm : b ∈ trk h H := List.mem_filter.mpr ⟨List.mem_range.mpr (Heap.lt_size e'), by simp [q]⟩
    have z : (hidT h H).get? b = none := PySem.W.hideAll_none (trk h H) hm
    rw [z] at e; cases e

/-! ### OpenK's ledger, filled with every new object but one -/
def allNews (g h : Heap) (L : Addr) : List (Addr × Obj) := (List.range h.objs.size).filterMap fun a => if a = L ∨ (g.get? a).isSome = true then none else (h.get? a).map fun o => (a, o)
def rest (g h : Heap) (L d : Addr) : List (Addr × Obj) := (allNews g h L).filter fun p => decide (p.1 ≠ d)
end L2

namespace L2
open PySem PySem.Spec PyProof.Rows

/-- the module's facts, over the base: the heap at the law's entry without what is tracked there -/
structure Mod (K : PySem.W.Frag) (mg : Str → Option Value) (base : Heap) : Prop where
  kin : K.In base
  glob : base.Ns mainGlobals mg
  blt : ∃ mb, base.Ns builtinsNs mb ∧ ∀ x : Str, x ≠ "__name__" → mb x = bootBuiltins x
  nolimit : base.NoLimit

/-- the context: a def's body (or a comprehension's block) running. base: fixed through the whole law; s₀, H₀: the entry; outer: the frames whose slots others may change (a def's callers); stack: all frames that run;
   ex: iterators that were made ahead of the entry and are walked here (a comprehension's); fn: the names whose cells were made at the entry (a def: all; a comprehension's block: its own); calm: not within an except suite; pn: pins that every state bears; xe: what is wanted of an exception that leaves the code -/
structure Cx where
  prog : Program
  w : World
  K : PySem.W.Frag
  mg : Str → Option Value
  base : Heap
  A : Around
  N : List Str
  s₀ : Shared
  H₀ : Hp
  env : Env
  outer : List Env
  stack : List Env
  ex : List Addr
  fn : Str → Bool
  calm : Bool
  pn : List (Addr × Obj)
  xe : Value → Shared → Prop
/-- the callers' frames -/
def frs (l : List Env) : List Addr := l.filterMap (·.frame)
abbrev Cx.fs (X : Cx) : List Addr := frs X.outer

def Vis (sc : Scope) (x : Str) : Prop := sc.names.lookup x = some .local ∨ sc.names.lookup x = some .cell ∨ sc.names.lookup x = some .free
def Loc (sc : Scope) (x : Str) : Prop := sc.names.lookup x = some .local ∨ sc.names.lookup x = some .cell
def Look (env : Env) (h : Heap) (m : Str → Option Value) (x : Str) (u : Value) : Prop :=
  (env.kindOf x = some .local ∧ m x = some u) ∨ ((env.kindOf x = some .cell ∨ env.kindOf x = some .free) ∧ ∃ c, env.cells.lookup x = some c ∧ h.IsCell c (some u))

structure Cx.Ok (X : Cx) : Prop where
  mod : Mod X.K X.mg X.base
  kind : X.env.scope.kind = .function
  glob : X.env.globals = mainGlobals
  blt : X.env.builtins = builtinsNs
  above : X.s₀.heap.objs.size ≤ X.env.locals
  inj : ∀ x y c, X.env.cells.lookup x = some c → X.env.cells.lookup y = some c → x = y
  has : ∀ x, (X.env.kindOf x = some .cell ∨ X.env.kindOf x = some .free) → ∃ c, X.env.cells.lookup x = some c
  cab : ∀ x c, X.fn x = true → X.env.cells.lookup x = some c → X.s₀.heap.objs.size ≤ c
  hd : X.calm = true → X.A.handled = none
  frames : X.A.frames = some X.stack
  stk : X.stack = X.outer ∨ (X.stack = X.env :: X.outer ∧ X.env.frame = some X.env.locals)
  exf : ∀ b ∈ X.ex, b ≠ X.env.locals ∧ ∀ x c, X.env.cells.lookup x = some c → c ≠ b
  bs : ∀ b o, X.base.get? b = some o → X.s₀.heap.get? b = some o ∧ X.H₀ b = none
  bsz : X.base.objs.size ≤ X.s₀.heap.objs.size
  noex : ∀ b o, X.base.get? b = some o → b ∉ X.ex
  exfs : ∀ b ∈ X.ex, b ∉ X.fs
  funs : X.s₀.heap.FunFrames X.base X.outer
  frf : ∀ b ∈ X.fs, X.H₀ b = none

structure Inv (X : Cx) (pins : List (Addr × Obj)) (σ : List (Option V)) (H : Hp) (s : Shared) : Prop where
  ok : X.Ok
  os : s.os = X.s₀.os
  bare : AllBare s.gens
  base : Un X.fs X.ex X.H₀ H X.s₀.heap s.heap
  loc : ∃ m, s.heap.Ns X.env.locals m ∧ ∀ (i : Nat) (x : Str) (v : V), X.N[i]? = some x → σ[i]? = some (some v) → Vis X.env.scope x → ∃ u, RelV v u ∧ Look X.env s.heap m x u
  cell : ∀ x c, X.env.cells.lookup x = some c → ∃ v, s.heap.IsCell c v
  free : H X.env.locals = none
  freeC : ∀ x c, X.env.cells.lookup x = some c → H c = none
  pin : ∀ p ∈ X.pn ++ pins, s.heap.get? p.1 = some p.2 ∧ H p.1 = none ∧ p.1 ≠ X.env.locals ∧ p.1 ∉ X.fs ∧ ∀ v, p.2.data ≠ .cell v
  hok : HOk X.prog X.w H s.heap
  len : σ.length = X.N.length

section
variable {X : Cx} {pins : List (Addr × Obj)} {σ : List (Option V)} {H H' : Hp} {s : Shared} {h' : Heap}

theorem Cx.Ok.nofr (ok : X.Ok) {b : Addr} {o : Obj} (e : X.base.get? b = some o) : b ∉ X.fs := fun hb => by
  have := (ok.funs.mem hb).1
  rw [e] at this; cases this
theorem Inv.bs (I : Inv X pins σ H s) : ∀ b o, X.base.get? b = some o → s.heap.get? b = some o ∧ H b = none := fun b o e =>
  ⟨I.base.keep b o (I.ok.bs b o e).1 (I.ok.bs b o e).2 (I.ok.nofr e) (I.ok.noex b o e), I.base.free b o (I.ok.bs b o e).1 (I.ok.bs b o e).2 (I.ok.noex b o e)⟩
theorem Inv.bk (I : Inv X pins σ H s) : ∀ b o, X.base.get? b = some o → s.heap.get? b = some o := fun b o e => (I.bs b o e).1
theorem Inv.mod (I : Inv X pins σ H s) : Mod X.K X.mg X.base := I.ok.mod
theorem Inv.kIn (I : Inv X pins σ H s) : X.K.In s.heap := I.ok.mod.kin.keeps I.bk
theorem Inv.lt (I : Inv X pins σ H s) : X.env.locals < s.heap.objs.size := let ⟨_, hn, _⟩ := I.loc; hn.lt
theorem Inv.sz (I : Inv X pins σ H s) : X.s₀.heap.objs.size ≤ s.heap.objs.size := Nat.le_trans I.ok.above (Nat.le_of_lt I.lt)
theorem Inv.nofs (I : Inv X pins σ H s) {a : Addr} (h : s.heap.objs.size ≤ a) : a ∉ X.fs := fun hb => by
  obtain ⟨_, o, ho, _⟩ := I.ok.funs.mem hb
  exact absurd (Nat.lt_of_lt_of_le (Heap.lt_size ho) (Nat.le_trans I.sz h)) (Nat.lt_irrefl _)
theorem Inv.cne (I : Inv X pins σ H s) : ∀ x c, X.env.cells.lookup x = some c → c ≠ X.env.locals := fun x c e z => by
  obtain ⟨v, o, ho, hd⟩ := I.cell x c e
  obtain ⟨m, ⟨o', es, ep, ho', hd', _⟩, _⟩ := I.loc
  rw [z, ho'] at ho; cases ho; rw [hd'] at hd; cases hd
theorem Inv.funs (I : Inv X pins σ H s) : s.heap.FunFrames X.base X.outer := by
  have all : ∀ (l : List Env), (∀ b ∈ frs l, b ∈ X.fs) → X.s₀.heap.FunFrames X.base l → s.heap.FunFrames X.base l := by
    intro l
    induction l with
    | nil => intro _ _; trivial
    | cons env r ih =>
      intro hs hl
      obtain ⟨hk, ⟨L, o, hf, hn, ho, hd⟩, hr⟩ := hl
      have hL : L ∈ X.fs := hs L (by unfold frs; rw [List.filterMap_cons, hf]; exact List.mem_cons_self)
      obtain ⟨sl, e⟩ := I.base.slot L o ho (I.ok.frf L hL) hL fun z => I.ok.exfs L z hL
      exact ⟨hk, ⟨L, _, hf, hn, e, hd⟩, ih (fun b hb => hs b (by unfold frs; rw [List.filterMap_cons, hf]; exact List.mem_cons_of_mem _ hb)) hr⟩
  exact all X.outer (fun _ hb => hb) I.ok.funs

/-- the frames that run, for a call -/
theorem Inv.stack (I : Inv X pins σ H s) : s.heap.FunFrames X.base X.stack := by
  rcases I.ok.stk with e | ⟨e, hf⟩
  · rw [e]; exact I.funs
  · rw [e]
    obtain ⟨m, hn, _⟩ := I.loc
    refine .cons (by rw [I.ok.kind]; decide) hf hn ?_ I.funs
    exact Heap.get?_none_of_le (Nat.le_trans I.ok.bsz I.ok.above)
theorem Inv.stkSub (I : Inv X pins σ H s) : ∀ b ∈ frs X.stack, b ∈ X.env.locals :: X.fs := fun b hb => by
  rcases I.ok.stk with e | ⟨e, hf⟩
  · rw [e] at hb; exact List.mem_cons_of_mem _ hb
  · rw [e] at hb
    unfold frs at hb
    rw [List.filterMap_cons, hf] at hb
    exact hb
theorem Inv.stkFree (I : Inv X pins σ H s) : ∀ b ∈ frs X.stack, H b = none := fun b hb => by
  rcases List.mem_cons.mp (I.stkSub b hb) with e | hb
  · rw [e]; exact I.free
  · obtain ⟨_, o, ho, _⟩ := I.ok.funs.mem hb
    exact I.base.free b o ho (I.ok.frf b hb) fun z => I.ok.exfs b z hb

/-- THE STEP: the untracked objects but the frame and the records at ch are kept (the callers' frames up to slots), the frame's map is kept, the new abstract heap is held -/
theorem Inv.step {g' : Array GenState} {t' : Nat} {d' : Drawn} {ch : List Addr} (I : Inv X pins σ H s)
    (hch : ∀ b ∈ ch, (b ∈ X.ex ∨ X.s₀.heap.objs.size ≤ b) ∧ b ≠ X.env.locals ∧ (∀ x c, X.env.cells.lookup x = some c → c ≠ b) ∧ ∀ p ∈ X.pn ++ pins, p.1 ≠ b)
    (keep : ∀ b o, b ≠ X.env.locals → b ∉ X.fs → b ∉ ch → s.heap.get? b = some o → H b = none → h'.get? b = some o)
    (slot : ∀ b o, b ≠ X.env.locals → b ∈ X.fs → b ∉ ch → s.heap.get? b = some o → H b = none → ∃ sl, h'.get? b = some { o with slots := sl }) (free : ∀ b o, b ∉ ch → s.heap.get? b = some o → H b = none → H' b = none)
    (there : ∀ b o, b ∉ ch → s.heap.get? b = some o → ∃ o', h'.get? b = some o')
    (tups : ∀ b xs, H b = some (.tup xs) → H' b = some (.tup xs)) (frzs : ∀ b o u, H b = some (.frz o u) → H' b = some (.frz o u)) (tbls : ∀ b ps, H b = some (.tbl ps) → ∃ more, H' b = some (.tbl (ps ++ more)))
    (ns : ∀ m, s.heap.Ns X.env.locals m → h'.Ns X.env.locals m) (hok : HOk X.prog X.w H' h') (hg : AllBare g') :
    Inv X pins σ H' { s with heap := h', gens := g', drawn := d', toks := t' } := by
  have neL : ∀ b o, X.s₀.heap.get? b = some o → b ≠ X.env.locals := fun b o e => Nat.ne_of_lt (Nat.lt_of_lt_of_le (Heap.lt_size e) I.ok.above)
  have neC : ∀ b o, X.s₀.heap.get? b = some o → b ∉ X.ex → b ∉ ch := fun b o e hx hb => by
    rcases (hch b hb).1 with z | z
    · exact hx z
    · exact absurd (Nat.lt_of_lt_of_le (Heap.lt_size e) z) (Nat.lt_irrefl _)
  have cellK : ∀ x c, X.env.cells.lookup x = some c → ∀ v, s.heap.IsCell c v → h'.IsCell c v := fun x c e v ⟨o, ho, hd⟩ => by
    have nch : c ∉ ch := fun z => (hch c z).2.2.1 x c e rfl
    by_cases hc : c ∈ X.fs
    · obtain ⟨sl, q⟩ := slot c o (I.cne x c e) hc nch ho (I.freeC x c e)
      exact ⟨_, q, hd⟩
    · exact ⟨o, keep c o (I.cne x c e) hc nch ho (I.freeC x c e), hd⟩
  refine ⟨I.ok, I.os, hg, ⟨fun b o e n hb hx => ?_, fun b o e n hb hx => ?_, fun b o e n hx => ?_, fun b o e hx => ?_, fun b xs e => tups b xs (I.base.tups b xs e), fun b o xs e => frzs b o xs (I.base.frzs b o xs e), fun b ps e => ?_⟩, ?_, fun x c e => ?_, ?_, fun x c e => ?_, fun p hp => ?_, hok, I.len⟩
  · exact keep b o (neL b o e) hb (neC b o e hx) (I.base.keep b o e n hb hx) (I.base.free b o e n hx)
  · obtain ⟨sl, e1⟩ := I.base.slot b o e n hb hx
    obtain ⟨sl', e2⟩ := slot b _ (neL b o e) hb (neC b o e hx) e1 (I.base.free b o e n hx)
    exact ⟨sl', e2⟩
  · obtain ⟨o', e1⟩ := I.base.there b o e hx
    exact free b o' (neC b o e hx) e1 (I.base.free b o e n hx)
  · obtain ⟨o', e1⟩ := I.base.there b o e hx
    exact there b o' (neC b o e hx) e1
  · obtain ⟨m1, e1⟩ := I.base.tbls b ps e
    obtain ⟨m2, e2⟩ := tbls b _ e1
    exact ⟨m1 ++ m2, by rw [e2, Array.append_assoc]⟩
  · obtain ⟨m, hn, hl⟩ := I.loc
    refine ⟨m, ns m hn, fun i x v e1 e2 e3 => ?_⟩
    obtain ⟨u, r, l⟩ := hl i x v e1 e2 e3
    refine ⟨u, r, ?_⟩
    rcases l with l | ⟨k, c, e, z⟩
    · exact .inl l
    · exact .inr ⟨k, c, e, cellK x c e _ z⟩
  · obtain ⟨v, z⟩ := I.cell x c e
    exact ⟨v, cellK x c e v z⟩
  · obtain ⟨m, ⟨o, _, _, ho, _⟩, _⟩ := I.loc
    exact free _ o (fun z => (hch _ z).2.1 rfl) ho I.free
  · obtain ⟨v, o, ho, hd⟩ := I.cell x c e
    exact free c o (fun z => (hch c z).2.2.1 x c e rfl) ho (I.freeC x c e)
  · obtain ⟨e, n, ne, nf, d⟩ := I.pin p hp
    have nch : p.1 ∉ ch := fun z => (hch p.1 z).2.2.2 p hp rfl
    exact ⟨keep p.1 p.2 ne nf nch e n, free p.1 p.2 nch e n, ne, nf, d⟩
/-- .. where the frame's own object is kept too -/
theorem Inv.un {t' : Nat} (I : Inv X pins σ H s) (u : Un X.fs [] H H' s.heap h') (hok : HOk X.prog X.w H' h') : Inv X pins σ H' { s with heap := h', toks := t' } := by
  obtain ⟨m, ⟨o, es, ep, ho, r⟩, _⟩ := id I.loc
  obtain ⟨sl, hL⟩ := u.any ho I.free (by simp)
  exact I.step (g' := s.gens) (d' := s.drawn) (ch := []) (fun _ z => nomatch z) (fun b o _ hb _ e n => u.keep b o e n hb (by simp)) (fun b o _ hb _ e n => u.slot b o e n hb (by simp)) (fun b o _ e n => u.free b o e n (by simp)) (fun b o _ e => u.there b o e (by simp)) u.tups u.frzs u.tbls (fun m' hm => by
    obtain ⟨o', es', ep', ho', r'⟩ := hm
    rw [ho] at ho'; cases ho'
    exact ⟨_, es', ep', hL, r'⟩) hok I.bare
/-- behind a call (or a comprehension's block): the slots of this frame may have changed too, the records at ch may have turned -/
theorem Inv.call {g' : Array GenState} {t' : Nat} {d' : Drawn} {ch : List Addr} (I : Inv X pins σ H s) (u : Un (frs X.stack) ch H H' s.heap h') (hok : HOk X.prog X.w H' h') (hg : AllBare g')
    (hch : ∀ b ∈ ch, (b ∈ X.ex ∨ X.s₀.heap.objs.size ≤ b) ∧ b ≠ X.env.locals ∧ (∀ x c, X.env.cells.lookup x = some c → c ≠ b) ∧ ∀ p ∈ X.pn ++ pins, p.1 ≠ b) :
    Inv X pins σ H' { s with heap := h', gens := g', drawn := d', toks := t' } := by
  obtain ⟨m, ⟨o, es, ep, ho, r⟩, _⟩ := id I.loc
  obtain ⟨sl, hL⟩ := u.any ho I.free fun z => (hch _ z).2.1 rfl
  exact I.step (ch := ch) hch (fun b o hL hb hc e n => u.keep b o e n (fun z => (List.mem_cons.mp (I.stkSub b z)).elim hL hb) hc) (fun b o _ _ hc e n => u.any e n hc) (fun b o hc e n => u.free b o e n hc) (fun b o hc e => u.there b o e hc) u.tups u.frzs u.tbls (fun m' hm => by
    obtain ⟨o', es', ep', ho', r'⟩ := hm
    rw [ho] at ho'; cases ho'
    exact ⟨_, es', ep', hL, r'⟩) hok hg
/-- an untracked record of ours (an iterator) has turned -/
theorem Inv.turned {t' : Nat} {it : Addr} (I : Inv X pins σ H s) (k : ∀ b o, b ≠ it → s.heap.get? b = some o → h'.get? b = some o) (hn : H it = none) (hL : it ≠ X.env.locals)
    (h1 : it ∈ X.ex ∨ X.s₀.heap.objs.size ≤ it) (h2 : ∀ x c, X.env.cells.lookup x = some c → c ≠ it) (h3 : ∀ p ∈ X.pn ++ pins, p.1 ≠ it) : Inv X pins σ H { s with heap := h', toks := t' } := by
  have nit : ∀ b u, H b = some u → b ≠ it := fun b u e z => by rw [z, hn] at e; cases e
  refine I.step (g' := s.gens) (d' := s.drawn) (ch := [it]) (fun b hb => ?_) (fun b o _ _ hc e _ => k b o (fun z => hc (by simp [z])) e) (fun b o _ _ hc e _ => ⟨o.slots, k b o (fun z => hc (by simp [z])) e⟩) (fun _ _ _ _ n => n)
    (fun b o hc e => ⟨o, k b o (fun z => hc (by simp [z])) e⟩) (fun _ _ e => e) (fun _ _ _ e => e) (fun b ps e => ⟨#[], by rw [e]; simp⟩) (fun m hm => ?_) (fun b u e => ?_) I.bare
  · have e : b = it := by simpa using hb
    subst e
    exact ⟨h1, hL, h2, h3⟩
  · obtain ⟨o, es, ep, ho, r⟩ := hm
    exact ⟨o, es, ep, k _ o (Ne.symm hL) ho, r⟩
  · refine (I.hok b u e).stay (fun c v hc q => k c v ?_ q) (fun _ q => q) fun _ _ q => q
    rcases hc with z | z
    · rw [z]; exact nit b u e
    · exact nit c _ z
theorem Inv.tok (I : Inv X pins σ H s) (t : Nat) : Inv X pins σ H { s with toks := t } := I.un (h' := s.heap) (t' := t) Un.refl I.hok
/-- all objects kept -/
theorem Inv.kept {t' : Nat} (I : Inv X pins σ H s) (k : ∀ b u, s.heap.get? b = some u → h'.get? b = some u) : Inv X pins σ H { s with heap := h', toks := t' } := I.un (Un.kept k) (I.hok.kept k)
/-- a new object laid and tracked -/
theorem Inv.laid {a : Addr} {o : HO} {t' : Nat} (I : Inv X pins σ H s) (k : ∀ b u, s.heap.get? b = some u → h'.get? b = some u) (hp : s.heap.objs.size ≤ a) (new : ObjOk X.prog X.w (upd H a o) h' a o) :
    Inv X pins σ (upd H a o) { s with heap := h', toks := t' } := I.un (Un.laid k hp (I.hok.fresh hp)) (I.hok.laid k hp new)
/-- an object written -/
theorem Inv.write {x e : Addr} {o : HO} {t' : Nat} (I : Inv X pins σ H s) (mu : Mut (H x)) (he : e = x ∨ H e = some (.own x)) (k : ∀ b u, b ≠ e → s.heap.get? b = some u → h'.get? b = some u) (heo : ∃ u, h'.get? e = some u)
    (new : ObjOk X.prog X.w (upd H x o) h' x o) : Inv X pins σ (upd H x o) { s with heap := h', toks := t' } := I.un (Un.write mu he k heo) (I.hok.write mu he k heo new)
theorem Inv.pins_of {pins' : List (Addr × Obj)} (I : Inv X pins σ H s) (h : ∀ p ∈ pins', s.heap.get? p.1 = some p.2 ∧ H p.1 = none ∧ p.1 ≠ X.env.locals ∧ p.1 ∉ X.fs ∧ ∀ v, p.2.data ≠ .cell v) : Inv X pins' σ H s :=
  ⟨I.ok, I.os, I.bare, I.base, I.loc, I.cell, I.free, I.freeC, fun p hp => (List.mem_append.mp hp).elim (fun z => I.pin p (List.mem_append_left _ z)) (h p), I.hok, I.len⟩

theorem nodup_ix {N : List Str} (hN : N.Nodup) {i j : Nat} {x : Str} (a : N[i]? = some x) (b : N[j]? = some x) : i = j := by
  obtain ⟨h1, e1⟩ := List.getElem?_eq_some_iff.mp a
  obtain ⟨h2, e2⟩ := List.getElem?_eq_some_iff.mp b
  exact (List.getElem_inj hN).mp (e1.trans e2.symm)

/-- a name is stored; what changed -/
theorem store_ok2 {M : Model} {A : Around} {E : Value → Shared → Prop} {i : Nat} {x : Str} {v : V} {u : Value} {Q : Unit → Shared → Prop} (I : Inv X pins σ H s) (hN : X.N.Nodup) (hi : X.N[i]? = some x) (hx : Loc X.env.scope x) (r : RelV v u)
    (h : ∀ s', Inv X pins (σ.set i (some v)) H s' → (∃ a, Heap.SameBut a s.heap s'.heap ∧ (a = X.env.locals ∨ X.env.cells.lookup x = some a)) → Q () s') (hf : X.fn x = true ∨ X.env.scope.names.lookup x = some .local := by first | exact .inl rfl | exact .inr rfl | assumption) : wpAny M A (storeName X.env x u) Q E s := by
  obtain ⟨m, hn, hl⟩ := id I.loc
  have hcls : (X.env.scope.kind == .class || (X.env.scope.kind == .module && X.env.locals != X.env.globals)) = false := by rw [I.ok.kind]; rfl
  have hiσ : i < σ.length := by rw [I.len]; exact (List.getElem?_eq_some_iff.mp hi).1
  have cne := I.cne
  have tracked : ∀ {a : Addr} {h' : Heap}, (∃ o, s.heap.get? a = some o ∧ H a = none) → Heap.SameBut a s.heap h' → HOk X.prog X.w H h' := fun {a h'} ha hs b ob e => by
    obtain ⟨_, _, hfree⟩ := ha
    refine (I.hok b ob e).stay (fun c w' hc q => (hs.2 c ?_).trans q) (fun _ q => q) fun _ _ q => q
    rintro rfl
    rcases hc with rfl | hc
    · rw [hfree] at e; cases e
    · rw [hfree] at hc; cases hc
  rcases hx with hk | hk
  · refine wpAny_storeName_local hk hn (fun h' hn' hs => ?_) hcls
    obtain ⟨oL, _, _, hoL, _⟩ := id hn
    refine h _ ⟨I.ok, I.os, I.bare, ⟨fun b o e n hb hx => ?_, fun b o e n hb hx => ?_, I.base.free, fun b o e hx => ?_, I.base.tups, I.base.frzs, I.base.tbls⟩, ⟨_, hn', fun j y v' e1 e2 e3 => ?_⟩, fun y c e => ?_, I.free, I.freeC, fun p hp => ?_, tracked ⟨oL, hoL, I.free⟩ hs, by simpa using I.len⟩ ⟨_, hs, .inl rfl⟩
    · exact (hs.2 b (Nat.ne_of_lt (Nat.lt_of_lt_of_le (Heap.lt_size e) I.ok.above))).trans (I.base.keep b o e n hb hx)
    · obtain ⟨sl, e1⟩ := I.base.slot b o e n hb hx
      exact ⟨sl, (hs.2 b (Nat.ne_of_lt (Nat.lt_of_lt_of_le (Heap.lt_size e) I.ok.above))).trans e1⟩
    · obtain ⟨o', e1⟩ := I.base.there b o e hx
      exact ⟨o', (hs.2 b (Nat.ne_of_lt (Nat.lt_of_lt_of_le (Heap.lt_size e) I.ok.above))).trans e1⟩
    · by_cases hj : j = i
      · subst hj
        rw [hi] at e1; cases e1
        rw [List.getElem?_set_self hiσ] at e2
        cases e2
        exact ⟨u, r, .inl ⟨hk, by simp⟩⟩
      · rw [List.getElem?_set_ne (Ne.symm hj)] at e2
        obtain ⟨u', r', q⟩ := hl j y v' e1 e2 e3
        refine ⟨u', r', ?_⟩
        rcases q with ⟨k, e⟩ | ⟨k, c, e, z⟩
        · refine .inl ⟨k, ?_⟩
          have : y ≠ x := fun e => hj (nodup_ix hN e1 (e ▸ hi))
          simp [this, e]
        · exact .inr ⟨k, c, e, z.sameBut hs (cne y c e)⟩
    · obtain ⟨w', z⟩ := I.cell y c e
      exact ⟨w', z.sameBut hs (cne y c e)⟩
    · obtain ⟨e, n, ne, nf, d⟩ := I.pin p hp
      exact ⟨(hs.2 p.1 ne).trans e, n, ne, nf, d⟩
  · have hfn : X.fn x = true := by
      rcases hf with z | z
      · exact z
      · rw [z] at hk; cases hk
    obtain ⟨c, hc⟩ := I.ok.has x (.inl hk)
    obtain ⟨w', z⟩ := I.cell x c hc
    refine wpAny_storeName_cell I.ok.kind hk hc z (fun h' hc' hs => ?_)
    obtain ⟨oc, hoc, hocd⟩ := id z
    refine h { s with heap := h' } ⟨I.ok, I.os, I.bare, ⟨fun b o e n hb hx => ?_, fun b o e n hb hx => ?_, I.base.free, fun b o e hx => ?_, I.base.tups, I.base.frzs, I.base.tbls⟩, ⟨m, hn.sameBut hs (Ne.symm (cne x c hc)), fun j y v' e1 e2 e3 => ?_⟩, fun y c' e => ?_, I.free, I.freeC, fun p hp => ?_, tracked ⟨oc, hoc, I.freeC x c hc⟩ hs, by simpa using I.len⟩ ⟨c, hs, .inr hc⟩
    · exact (hs.2 b (Nat.ne_of_lt (Nat.lt_of_lt_of_le (Heap.lt_size e) (I.ok.cab x c hfn hc)))).trans (I.base.keep b o e n hb hx)
    · obtain ⟨sl, e1⟩ := I.base.slot b o e n hb hx
      exact ⟨sl, (hs.2 b (Nat.ne_of_lt (Nat.lt_of_lt_of_le (Heap.lt_size e) (I.ok.cab x c hfn hc)))).trans e1⟩
    · obtain ⟨o', e1⟩ := I.base.there b o e hx
      exact ⟨o', (hs.2 b (Nat.ne_of_lt (Nat.lt_of_lt_of_le (Heap.lt_size e) (I.ok.cab x c hfn hc)))).trans e1⟩
    · by_cases hj : j = i
      · subst hj
        rw [hi] at e1; cases e1
        rw [List.getElem?_set_self hiσ] at e2
        cases e2
        exact ⟨u, r, .inr ⟨.inl hk, c, hc, hc'⟩⟩
      · rw [List.getElem?_set_ne (Ne.symm hj)] at e2
        obtain ⟨u', r', q⟩ := hl j y v' e1 e2 e3
        refine ⟨u', r', ?_⟩
        rcases q with q | ⟨k, c', e, z'⟩
        · exact .inl q
        · refine .inr ⟨k, c', e, z'.sameBut hs ?_⟩
          rintro rfl
          exact hj (nodup_ix hN e1 (I.ok.inj _ _ _ e hc ▸ hi))
    · by_cases hcc : c' = c
      · subst hcc; exact ⟨_, hc'⟩
      · obtain ⟨w2, z2⟩ := I.cell y c' e
        exact ⟨w2, z2.sameBut hs hcc⟩
    · obtain ⟨e, n, ne, nf, d⟩ := I.pin p hp
      refine ⟨(hs.2 p.1 ?_).trans e, n, ne, nf, d⟩
      intro q
      rw [q, hoc] at e
      have q' : oc = p.2 := Option.some.inj e
      exact d w' (by rw [← q']; exact hocd)
theorem store_ok {M : Model} {A : Around} {E : Value → Shared → Prop} {i : Nat} {x : Str} {v : V} {u : Value} {Q : Unit → Shared → Prop} (I : Inv X pins σ H s) (hN : X.N.Nodup) (hi : X.N[i]? = some x) (hx : Loc X.env.scope x) (r : RelV v u)
    (h : ∀ s', Inv X pins (σ.set i (some v)) H s' → Q () s') (hf : X.fn x = true ∨ X.env.scope.names.lookup x = some .local := by first | exact .inl rfl | exact .inr rfl | assumption) : wpAny M A (storeName X.env x u) Q E s :=
  store_ok2 I hN hi hx r (fun s' I' _ => h s' I') hf
/-- behind a call or a block, the state as it is -/
theorem Inv.call' {s' : Shared} {ch : List Addr} (I : Inv X pins σ H s) (ho : s'.os = s.os) (u : Un (frs X.stack) ch H H' s.heap s'.heap) (hok : HOk X.prog X.w H' s'.heap) (hg : AllBare s'.gens)
    (hch : ∀ b ∈ ch, (b ∈ X.ex ∨ X.s₀.heap.objs.size ≤ b) ∧ b ≠ X.env.locals ∧ (∀ x c, X.env.cells.lookup x = some c → c ≠ b) ∧ ∀ p ∈ X.pn ++ pins, p.1 ≠ b) : Inv X pins σ H' s' := by
  obtain ⟨h', g', d', t', o'⟩ := s'
  have e : o' = s.os := ho
  subst e
  exact I.call (g' := g') (t' := t') (d' := d') u hok hg hch
end

/-! ### the judgements -/
/-- an exception: its class, its own dict's address (where it has one), the abstract heap behind it -/
abbrev XK := Value → Option Addr → Hp → Prop
abbrev St := List (Option V)
abbrev VK := V → Hp → Prop
/-- an expression's reading; a test's; an argument list's -/
abbrev TE := St → Hp → VK → Prop
abbrev TT := St → Hp → (Bool → Hp → Prop) → Prop
abbrev TA := St → Hp → (List V → Hp → Prop) → Prop
/-- what is wanted behind a statement -/
structure Ends where
  nx : St → Hp → Prop
  rt : VK
  bk : St → Hp → Prop := fun _ _ => False
  ct : St → Hp → Prop := fun _ _ => False
abbrev TS := Ends → St → Hp → Prop

def EP (X : Cx) (pins : List (Addr × Obj)) (σ : St) (Q : VK) (u : Value) (s' : Shared) : Prop := ∃ v H', Inv X pins σ H' s' ∧ RelV v u ∧ Q v H'
def TP (X : Cx) (pins : List (Addr × Obj)) (σ : St) (Q : Bool → Hp → Prop) (b : Bool) (s' : Shared) : Prop := ∃ H', Inv X pins σ H' s' ∧ Q b H'
def AP (X : Cx) (pins : List (Addr × Obj)) (σ : St) (Q : List V → Hp → Prop) (us : List Value) (s' : Shared) : Prop := ∃ vs H', Inv X pins σ H' s' ∧ Vals vs us ∧ Q vs H'
def SP (X : Cx) (pins : List (Addr × Obj)) (D : Ends) (f : Flow) (s' : Shared) : Prop :=
  match f with
  | .next => ∃ σ' H', Inv X pins σ' H' s' ∧ D.nx σ' H'
  | .brk => ∃ σ' H', Inv X pins σ' H' s' ∧ D.bk σ' H'
  | .cont => ∃ σ' H', Inv X pins σ' H' s' ∧ D.ct σ' H'
  | .ret u => ∃ v σ' H', Inv X pins σ' H' s' ∧ RelV v u ∧ D.rt v H'

def PE (X : Cx) (e : Expr) (t : TE) : Prop :=
  ∀ (pins : List (Addr × Obj)) (s : Shared) (σ : St) (H : Hp) (Q : VK), Inv X pins σ H s → t σ H Q → wpAny (model X.prog X.w) X.A (eval e X.env) (EP X pins σ Q) X.xe s
def PT (X : Cx) (e : Expr) (t : TT) : Prop :=
  ∀ (pins : List (Addr × Obj)) (s : Shared) (σ : St) (H : Hp) (Q : Bool → Hp → Prop), Inv X pins σ H s → t σ H Q → wpAny (model X.prog X.w) X.A (isTrue e X.env (eval e X.env)) (TP X pins σ Q) X.xe s
/-- a test whatever its 'whole' is (and, or) -/
def PW (X : Cx) (e : Expr) (t : TT) : Prop :=
  ∀ (whole : Sem Value) (pins : List (Addr × Obj)) (s : Shared) (σ : St) (H : Hp) (Q : Bool → Hp → Prop), Inv X pins σ H s → t σ H Q → wpAny (model X.prog X.w) X.A (isTrue e X.env whole) (TP X pins σ Q) X.xe s
theorem PW.pt {X : Cx} {e : Expr} {t : TT} (h : PW X e t) : PT X e t := h _
/-- an argument list (no star), from the left -/
def PA (X : Cx) (es : List Expr) (t : TA) : Prop :=
  ∀ (pos : Pos) (pins : List (Addr × Obj)) (s : Shared) (σ : St) (H : Hp) (Q : List V → Hp → Prop), Inv X pins σ H s → t σ H Q → wpAny (model X.prog X.w) X.A (spliced (backTo pos (starEach es X.env))) (AP X pins σ Q) X.xe s
def PS (X : Cx) (st : Stmt) (t : TS) : Prop :=
  ∀ (pins : List (Addr × Obj)) (s : Shared) (σ : St) (H : Hp) (D : Ends), Inv X pins σ H s → t D σ H → wpAny (model X.prog X.w) X.A (exec st X.env) (SP X pins D) X.xe s
def PSs (X : Cx) (st : List Stmt) (t : TS) : Prop :=
  ∀ (pins : List (Addr × Obj)) (s : Shared) (σ : St) (H : Hp) (D : Ends), Inv X pins σ H s → t D σ H → wpAny (model X.prog X.w) X.A (execs st X.env) (SP X pins D) X.xe s
/-- weaken the end -/
theorem thn {α : Type} {t : Sem α} {Q Q' : α → Shared → Prop} {M : Model} {A : Around} {E : Value → Shared → Prop} {s : Shared} (h : wpAny M A t Q E s) (hQ : ∀ a s, Q a s → Q' a s) : wpAny M A t Q' E s := wpAny_mono h hQ fun _ _ x => x
end L2

namespace L2
open PySem PySem.Spec PyProof.Rows
section
variable {X : Cx}

/-! ### names and constants -/
def tVar (i : Nat) : TE := fun σ H Q => ∃ v, σ[i]? = some (some v) ∧ Q v H
def tC (v : V) : TE := fun _ H Q => Q v H
theorem pe_var {i : Nat} {x : Str} {pos : Pos} (hN : X.N[i]? = some x) (hv : Vis X.env.scope x) (hd : (x == ("__debug__" : Str)) = false := by decide) (hcd : (x == ("__classdict__" : Str)) = false := by decide) : PE X (.Name x pos) (tVar i) := by
  intro pins s σ H Q I h
  obtain ⟨v, e, h⟩ := h
  obtain ⟨m, hn, hl⟩ := I.loc
  obtain ⟨u, r, l⟩ := hl i x v hN e hv
  have fin : EP X pins σ Q u s := ⟨v, H, I, r, h⟩
  rcases l with ⟨hk, hm⟩ | ⟨hk, c, hc, hcell⟩
  · exact wpAny_Name (wpAny_loadName_local I.ok.kind hk hn hm fin) hd
  · rcases hk with hk | hk
    · exact wpAny_Name (wpAny_loadName_cell I.ok.kind hk hc hcell fin) hd
    · exact wpAny_Name (wpAny_loadName_free I.ok.kind hk hc hcell fin hcd) hd
theorem pe_int {i j pos} : PE X (.Constant (.int i) j pos) (tC (.int i)) := fun _ _ _ H _ I h => wpAny_Constant_int ⟨.int i, H, I.tok _, ⟨_, rfl⟩, h⟩
theorem pe_bl {b j pos} : PE X (.Constant (.bool b) j pos) (tC (.bl b)) := fun _ _ _ H _ I h => Constant_bool ⟨.bl b, H, I, rfl, h⟩
theorem pe_non {j pos} : PE X (.Constant .none j pos) (tC .non) := fun _ _ _ H _ I h => Constant_none ⟨.non, H, I, rfl, h⟩
theorem pe_str {x j pos} : PE X (.Constant (.str x) j pos) (tC (.str x)) := fun _ _ _ H _ I h => Calls.Constant_str ⟨.str x, H, I.tok _, ⟨_, rfl⟩, h⟩

/-- a global name of the def -/
def Gl (X : Cx) (x : Str) : Prop := X.env.kindOf x = some .globalImplicit
theorem ld_glob {E : Value → Shared → Prop} {pins : List (Addr × Obj)} {s : Shared} {σ : St} {H : Hp} {x : Str} {u : Value} {pos : Pos} {Q : Value → Shared → Prop} (I : Inv X pins σ H s) (hg : Gl X x) (hm : X.mg x = some u) (h : Q u s)
    (hd : (x == ("__debug__" : Str)) = false := by decide) : wpAny (model X.prog X.w) X.A (eval (.Name x pos) X.env) Q E s :=
  Calls.Name_function_global I.ok.kind hg (Calls.loadGlobal_global (by rw [I.ok.glob]; exact I.mod.glob.keeps I.bk) hm h) hd
theorem ld_blt {E : Value → Shared → Prop} {pins : List (Addr × Obj)} {s : Shared} {σ : St} {H : Hp} {x : Str} {u : Value} {pos : Pos} {Q : Value → Shared → Prop} (I : Inv X pins σ H s) (hg : Gl X x) (hm : X.mg x = none) (hv : bootBuiltins x = some u) (h : Q u s)
    (hn : x ≠ "__name__" := by decide) (hd : (x == ("__debug__" : Str)) = false := by decide) : wpAny (model X.prog X.w) X.A (eval (.Name x pos) X.env) Q E s := by
  obtain ⟨mb, h1, h2⟩ := I.mod.blt
  exact Calls.Name_function_global I.ok.kind hg (Calls.loadGlobal_builtin (by rw [I.ok.glob]; exact I.mod.glob.keeps I.bk) hm (by rw [I.ok.blt]; exact h1.keeps I.bk) ((h2 x hn).trans hv) h) hd
/-- a module's constant, a class, a function, as a value -/
theorem pe_glob {x : Str} {v : V} {u : Value} {pos : Pos} (hg : Gl X x) (hm : X.mg x = some u) (r : RelV v u) (hd : (x == ("__debug__" : Str)) = false := by decide) : PE X (.Name x pos) (tC v) :=
  fun _ _ _ H _ I h => ld_glob I hg hm ⟨v, H, I, r, h⟩ hd
theorem pe_bltn {x : Str} {v : V} {u : Value} {pos : Pos} (hg : Gl X x) (hm : X.mg x = none) (hv : bootBuiltins x = some u) (r : RelV v u) (hn : x ≠ "__name__" := by decide) (hd : (x == ("__debug__" : Str)) = false := by decide) : PE X (.Name x pos) (tC v) :=
  fun _ _ _ H _ I h => ld_blt I hg hm hv ⟨v, H, I, r, h⟩ hn hd

/-! ### arithmetic -/
/-- two ints -/
def t2I (ta tb : TE) (k : Int → Int → Hp → Prop) : St → Hp → Prop := fun σ H => ta σ H fun x H1 => tb σ H1 fun y H2 => ∃ i j, x = .int i ∧ y = .int j ∧ k i j H2
def tAdd (ta tb : TE) : TE := fun σ H Q => t2I ta tb (fun i j H2 => Q (.int (i + j)) H2) σ H
def tSub (ta tb : TE) : TE := fun σ H Q => t2I ta tb (fun i j H2 => Q (.int (i - j)) H2) σ H
/-- the left factor below 2^64 -/
def tMul (ta tb : TE) : TE := fun σ H Q => t2I ta tb (fun i j H2 => (-(2 ^ 64) < i ∧ i < 2 ^ 64) ∧ Q (.int (i * j)) H2) σ H
variable {a b : Expr} {ta tb : TE} {pos : Pos}
/-! ### comparisons -/
def PC (X : Cx) (op : CmpOp) (a b : Expr) (t : TE) : Prop :=
  ∀ (pins : List (Addr × Obj)) (s : Shared) (σ : St) (H : Hp) (Q : VK), Inv X pins σ H s → t σ H Q →
    wpAny (model X.prog X.w) X.A (eval a X.env) (fun v s₁ => wpAny (model X.prog X.w) X.A (eval b X.env) (fun u s₂ => wpAny (model X.prog X.w) X.A (compareOp op v u) (EP X pins σ Q) X.xe s₂) X.xe s₁) X.xe s
def tCmp (p : Int → Int → Bool) (ta tb : TE) : TE := fun σ H Q => t2I ta tb (fun i j H2 => Q (.bl (p i j)) H2) σ H
abbrev tLt : TE → TE → TE := tCmp fun i j => decide (i < j)
abbrev tLe : TE → TE → TE := tCmp fun i j => decide (i ≤ j)
abbrev tGt : TE → TE → TE := tCmp fun i j => decide (j < i)
abbrev tGe : TE → TE → TE := tCmp fun i j => decide (j ≤ i)
abbrev tEqI : TE → TE → TE := tCmp fun i j => decide (i = j)
abbrev tNeI : TE → TE → TE := tCmp fun i j => !decide (i = j)
/-- is None -/
def tIsN (ta : TE) : TE := fun σ H Q => ta σ H fun x H1 => Q (.bl (decide (x = .non))) H1
def tNotN (ta : TE) : TE := fun σ H Q => ta σ H fun x H1 => Q (.bl (!decide (x = .non))) H1
/-- a comparison as a value, as a test -/
def tB (t : TE) : TT := fun σ H Q => t σ H fun x H1 => ∃ c, x = .bl c ∧ Q c H1
theorem pe_cmp {op : CmpOp} {t : TE} (h : PC X op a b t) (h1 : behindInMarks op b = false := by first | exact nobehind _ (by decide) (by decide) | rfl) : PE X (.Compare a [op] [b] pos) t := fun pins s σ H Q I hw => wpAny_Compare1 (h pins s σ H Q I hw) h1
theorem pt_cmp {op : CmpOp} {t : TE} (h : PC X op a b t) (h1 : behindInMarks op b = false := by first | exact nobehind _ (by decide) (by decide) | rfl) : PT X (.Compare a [op] [b] pos) (tB t) := by
  intro pins s σ H Q I hw
  refine wpAny_isTrue_Compare1 (thn (h pins s σ H _ I hw) fun v s1 h1 => thn h1 fun u s2 h2 => thn h2 fun c s3 ⟨x, H1, I1, r1, q1⟩ => ?_) h1
  obtain ⟨d, rfl, q⟩ := q1
  cases r1
  exact wpAny_truthy_bool ⟨H1, I1, q⟩
/-- an expression whose value is a bool, as a test -/
theorem pt_val {e : Expr} {t : TE} (h : PE X e t) (he : ∀ whole, isTrue e X.env whole = (do let v ← whole; standAt e.pos; holding [v] (truthy v)) := by intro _; rfl) : PT X e (tB t) := by
  intro pins s σ H Q I hw
  refine isTrue_plain (thn (h pins s σ H _ I hw) fun v s1 ⟨x, H1, I1, r1, q1⟩ => ?_) (he _)
  obtain ⟨d, rfl, q⟩ := q1
  cases r1
  exact wpAny_truthy_bool ⟨H1, I1, q⟩

/-! ### and, or, not -/
variable {tA tB' : TT} {rest : List Expr}
def tAnd (t u : TT) : TT := fun σ H Q => t σ H fun c H1 => if c = true then u σ H1 Q else Q false H1
def tOr (t u : TT) : TT := fun σ H Q => t σ H fun c H1 => if c = true then Q true H1 else u σ H1 Q
def tNot (t : TT) : TT := fun σ H Q => t σ H fun c H1 => Q (!c) H1
theorem pw_and1 (ha : PT X a tA) : PW X (.BoolOp .And [a] pos) tA := by
  intro wh pins s σ H Q I h
  refine isTrue_and (thn (ha pins s σ H Q I h) fun c s1 e => ?_)
  cases c with
  | true => exact isTrue_and_nil e
  | false => exact e
theorem pw_or1 (ha : PT X a tA) : PW X (.BoolOp .Or [a] pos) tA := by
  intro wh pins s σ H Q I h
  refine isTrue_or (thn (ha pins s σ H Q I h) fun c s1 e => ?_)
  cases c with
  | false => exact isTrue_or_nil e
  | true => exact e
theorem pw_and (ha : PT X a tA) (hb : PW X (.BoolOp .And (b :: rest) pos) tB') : PW X (.BoolOp .And (a :: b :: rest) pos) (tAnd tA tB') := by
  intro wh pins s σ H Q I h
  refine isTrue_and (thn (ha pins s σ H _ I h) fun c s1 ⟨H1, I1, q1⟩ => ?_)
  cases c with
  | true => exact hb wh pins s1 σ H1 Q I1 q1
  | false => exact ⟨H1, I1, q1⟩
theorem pw_or (ha : PT X a tA) (hb : PW X (.BoolOp .Or (b :: rest) pos) tB') : PW X (.BoolOp .Or (a :: b :: rest) pos) (tOr tA tB') := by
  intro wh pins s σ H Q I h
  refine isTrue_or (thn (ha pins s σ H _ I h) fun c s1 ⟨H1, I1, q1⟩ => ?_)
  cases c with
  | true => exact ⟨H1, I1, q1⟩
  | false => exact hb wh pins s1 σ H1 Q I1 q1
theorem pt_not (ha : PT X a tA) : PT X (.UnaryOp .Not a pos) (tNot tA) := by
  intro pins s σ H Q I h
  exact isTrue_not (ha pins s σ H (fun c H1 => Q (!c) H1) I h)
/-- .. as values (bools) -/
def tAndV (ta tb : TE) : TE := fun σ H Q => ta σ H fun x H1 => ∃ c, x = .bl c ∧ if c = true then tb σ H1 Q else Q (.bl false) H1
def tOrV (ta tb : TE) : TE := fun σ H Q => ta σ H fun x H1 => ∃ c, x = .bl c ∧ if c = true then Q (.bl true) H1 else tb σ H1 Q
def tNotV (ta : TE) : TE := fun σ H Q => ta σ H fun x H1 => ∃ c, x = .bl c ∧ Q (.bl (!c)) H1
theorem pe_one {op} {t : TE} (h : PE X a t) : PE X (.BoolOp op [a] pos) t := fun pins s σ H Q I hw => BoolOp_one (h pins s σ H Q I hw)
theorem pe_and (ha : PE X a ta) (hb : PE X (.BoolOp .And (b :: rest) pos) tb) : PE X (.BoolOp .And (a :: b :: rest) pos) (tAndV ta tb) := by
  intro pins s σ H Q I h
  refine BoolOp_and (thn (ha pins s σ H _ I h) fun v s1 ⟨x, H1, I1, r1, q1⟩ => ?_)
  obtain ⟨c, rfl, q1⟩ := q1
  cases r1
  refine wpAny_truthy_bool ?_
  cases c with
  | true => exact hb pins s1 σ H1 Q I1 q1
  | false => exact ⟨.bl false, H1, I1, rfl, q1⟩
theorem pe_not (ha : PE X a ta) : PE X (.UnaryOp .Not a pos) (tNotV ta) := by
  intro pins s σ H Q I h
  refine UnaryOp_ (thn (ha pins s σ H _ I h) fun v s1 ⟨x, H1, I1, r1, q1⟩ => ?_)
  obtain ⟨c, rfl, q1⟩ := q1
  cases r1
  exact not_of (wpAny_truthy_bool ⟨.bl (!c), H1, I1, rfl, q1⟩)
/-- a if t else b -/
def tIf (t : TT) (ta tb : TE) : TE := fun σ H Q => t σ H fun c H1 => if c = true then ta σ H1 Q else tb σ H1 Q
theorem pe_ifExp {c : Expr} (hc : PT X c tA) (ha : PE X a ta) (hb : PE X b tb) : PE X (.IfExp c a b pos) (tIf tA ta tb) := by
  intro pins s σ H Q I h
  refine wpAny_IfExp (thn (hc pins s σ H _ I h) fun d s1 ⟨H1, I1, q1⟩ => ?_)
  cases d with
  | true => exact ha pins s1 σ H1 Q I1 q1
  | false => exact hb pins s1 σ H1 Q I1 q1
end
end L2

namespace L2
open PySem PySem.Spec PyProof.Rows

/-! ### a list, a tuple that is read: tracked, frozen, or an object of the module -/
def SqL (K : PySem.W.Frag) (H : Hp) (a : Addr) (xs : List V) : Prop :=
  Rd H a (.lst xs) ∨
    ∃ (o : Obj) (its : Array Value) (n : Nat), K.lookup a = some o ∧ o.cls = .type "list" ∧ o.dict = none ∧ o.data = .seq its n ∧ its.size ≤ sizeLine ∧ Vals xs its.toList
def SqT (K : PySem.W.Frag) (H : Hp) (a : Addr) (xs : List V) : Prop :=
  Rd H a (.tup xs) ∨
    ∃ (o : Obj) (its : Array Value) (n : Nat), K.lookup a = some o ∧ o.cls = .type "tuple" ∧ o.data = .seq its n ∧ its.size ≤ sizeLine ∧ Vals xs its.toList
def absV : Value → Option V
  | .none => some .non
  | .bool b => some (.bl b)
  | .int i _ => some (.int i)
  | .str x _ => some (.str x)
  | .bytes b _ => some (.byt b)
  | .float b _ => some (.flt b)
  | .ref a => some (.ref a)
  | .type n => some (.ty n)
  | _ => none
theorem RelV.abs {x : V} {u : Value} (r : RelV x u) : absV u = some x := by
  cases x with
  | non => cases r; rfl
  | bl _ => cases r; rfl
  | int _ => obtain ⟨t, rfl⟩ := r; rfl
  | str _ => obtain ⟨t, rfl⟩ := r; rfl
  | byt _ => obtain ⟨t, rfl⟩ := r; rfl
  | flt _ => obtain ⟨t, rfl⟩ := r; rfl
  | ref _ => cases r; rfl
  | ty _ => cases r; rfl
theorem RelV.inj {x y : V} {u : Value} (r : RelV x u) (q : RelV y u) : x = y := Option.some.inj (r.abs.symm.trans q.abs)
theorem Vals.inj : ∀ {xs ys : List V} {us : List Value}, Vals xs us → Vals ys us → xs = ys
  | _, _, _, .nil, .nil => rfl
  | _, _, _, .cons r t, .cons r' t' => by rw [r.inj r', Vals.inj t t']
section
variable {X : Cx} {pins : List (Addr × Obj)} {σ : St} {H : Hp} {s : Shared} {a : Addr} {xs ys : List V}
theorem SqL.of {K : PySem.W.Frag} (h : H a = some (.lst xs)) : SqL K H a xs := .inl (.inl h)
theorem SqT.of {K : PySem.W.Frag} (h : H a = some (.tup xs)) : SqT K H a xs := .inl (.inl h)
theorem Inv.list (I : Inv X pins σ H s) (h : SqL X.K H a xs) : ∃ its : List Value, Vals xs its ∧ PlainL s.heap a its.toArray ∧ xs.length ≤ sizeLine := by
  rcases h with h | ⟨o, its, n, hk, hc, hd, hs, hz, r⟩
  · obtain ⟨z, its, n, r, e⟩ := h.ok I.hok
    exact ⟨its, r, ⟨_, n, e, rfl, rfl, rfl⟩, z⟩
  · refine ⟨its.toList, r, ⟨o, n, I.kIn a o hk, hc, hd, by simpa using hs⟩, ?_⟩
    have e := r.length
    simp only [Array.length_toList] at e
    omega
theorem Inv.tuple (I : Inv X pins σ H s) (h : SqT X.K H a xs) : ∃ its : List Value, Vals xs its ∧ IsTup s.heap a its.toArray ∧ xs.length ≤ sizeLine := by
  rcases h with h | ⟨o, its, n, hk, hc, hs, hz, r⟩
  · obtain ⟨z, its, r, p⟩ := h.ok I.hok
    exact ⟨its, r, p, z⟩
  · refine ⟨its.toList, r, ⟨o, I.kIn a o hk, hc, n, by simpa using hs⟩, ?_⟩
    have e := r.length
    simp only [Array.length_toList] at e
    omega
theorem Inv.list_inj (I : Inv X pins σ H s) (h : SqL X.K H a xs) (h' : SqL X.K H a ys) : xs = ys := by
  obtain ⟨its, r, ⟨o, n, e, _, _, d⟩, _⟩ := I.list h
  obtain ⟨its', r', ⟨o', n', e', _, _, d'⟩, _⟩ := I.list h'
  rw [e] at e'; cases e'
  rw [d] at d'
  injection d' with d1 _
  have : its = its' := by simpa using congrArg Array.toList d1
  subst this
  exact r.inj r'
end

/-! ### another wish about exceptions -/
abbrev Cx.wish (X : Cx) (E : Value → Shared → Prop) : Cx := { X with xe := E }
/-- no exception leaves -/
abbrev Cx.nox (X : Cx) : Cx := X.wish fun _ _ => False
theorem Cx.Ok.wish {X : Cx} (ok : X.Ok) (E : Value → Shared → Prop) : (X.wish E).Ok :=
  ⟨ok.mod, ok.kind, ok.glob, ok.blt, ok.above, ok.inj, ok.has, ok.cab, ok.hd, ok.frames, ok.stk, ok.exf, ok.bs, ok.bsz, ok.noex, ok.exfs, ok.funs, ok.frf⟩
theorem Cx.Ok.unwish {X : Cx} {E : Value → Shared → Prop} (ok : (X.wish E).Ok) : X.Ok :=
  ⟨ok.mod, ok.kind, ok.glob, ok.blt, ok.above, ok.inj, ok.has, ok.cab, ok.hd, ok.frames, ok.stk, ok.exf, ok.bs, ok.bsz, ok.noex, ok.exfs, ok.funs, ok.frf⟩
section
variable {X : Cx} {pins : List (Addr × Obj)} {σ : St} {H : Hp} {s : Shared} {E : Value → Shared → Prop}
theorem Inv.wish (I : Inv X pins σ H s) (E : Value → Shared → Prop) : Inv (X.wish E) pins σ H s := ⟨I.ok.wish E, I.os, I.bare, I.base, I.loc, I.cell, I.free, I.freeC, I.pin, I.hok, I.len⟩
theorem Inv.unwish (I : Inv (X.wish E) pins σ H s) : Inv X pins σ H s := ⟨I.ok.unwish, I.os, I.bare, I.base, I.loc, I.cell, I.free, I.freeC, I.pin, I.hok, I.len⟩
theorem SP.unwish {D : Ends} {f : Flow} {s' : Shared} (h : SP (X.wish E) pins D f s') : SP X pins D f s' := by
  cases f with
  | next => obtain ⟨σ', H', I, q⟩ := h; exact ⟨σ', H', I.unwish, q⟩
  | brk => obtain ⟨σ', H', I, q⟩ := h; exact ⟨σ', H', I.unwish, q⟩
  | cont => obtain ⟨σ', H', I, q⟩ := h; exact ⟨σ', H', I.unwish, q⟩
  | ret u => obtain ⟨v, σ', H', I, r, q⟩ := h; exact ⟨v, σ', H', I.unwish, r, q⟩
theorem PSs.nox {st : List Stmt} {t : TS} (h : PSs X.nox st t) : PSs X st t := fun pins s σ H D I hw =>
  wpAny_mono (h pins s σ H D (I.wish _) hw) (fun _ _ q => q.unwish) fun _ _ z => False.elim z
end

/-! ### blocks and small statements -/
section
variable {X : Cx} {st : Stmt} {rest : List Stmt} {t u : TS} {e : Expr} {te : TE} {pos : Pos}
def tNext : TS := fun D σ H => D.nx σ H
def tSeq (t u : TS) : TS := fun D σ H => t { D with nx := u D } σ H
theorem pss_nil : PSs X [] tNext := fun _ _ σ H _ I h => wpAny_execs_nil ⟨σ, H, I, h⟩
theorem pss_cons (h1 : PS X st t) (h2 : PSs X rest u) : PSs X (st :: rest) (tSeq t u) := by
  intro pins s σ H D I h
  refine wpAny_execs_cons (thn (h1 pins s σ H { D with nx := u D } I h) fun f s1 q => ?_)
  cases f with
  | next =>
    obtain ⟨σ', H', I', q⟩ := q
    exact h2 pins s1 σ' H' D I' q
  | ret v => exact q
  | brk => exact q
  | cont => exact q
theorem pss_one (h1 : PS X st t) : PSs X [st] t := by
  intro pins s σ H D I h
  refine wpAny_execs_cons (thn (h1 pins s σ H D I h) fun f s1 q => ?_)
  cases f with
  | next => exact wpAny_execs_nil q
  | ret v => exact q
  | brk => exact q
  | cont => exact q
def tBreak : TS := fun D σ H => D.bk σ H
def tCont : TS := fun D σ H => D.ct σ H
/-- in a def's body nothing is shown -/
theorem Inv.quiet {pins : List (Addr × Obj)} {σ : St} {H : Hp} {s : Shared} (I : Inv X pins σ H s) : interactive X.env = false := by simp [interactive, I.ok.kind]
/-- an expression whose value is dropped -/
def tDrop (te : TE) : TS := fun D σ H => te σ H fun _ H1 => D.nx σ H1
theorem ps_expr (he : PE X e te) (hs : swapsWith e none pos.line X.env = pure false := by rfl) : PS X (.Expr e pos) (tDrop te) := by
  intro pins s σ H D I h
  exact wpAny_Expr_any (thn (he pins s σ H _ I h) fun v s1 ⟨x, H1, I1, r1, q1⟩ => ⟨σ, H1, I1, q1⟩) I.quiet hs
def tRet (te : TE) : TS := fun D σ H => te σ H D.rt
theorem ps_ret (he : PE X e te) : PS X (.Return (some e) pos) (tRet te) := by
  intro pins s σ H D I h
  exact wpAny_Return_some (thn (he pins s σ H _ I h) fun v s1 ⟨x, H1, I1, r1, q1⟩ => ⟨x, σ, H1, I1, r1, q1⟩)
def tRetN : TS := fun D _ H => D.rt .non H
def tIfS (c : TT) (t u : TS) : TS := fun D σ H => c σ H fun b H1 => if b = true then t D σ H1 else u D σ H1
theorem ps_if {c : Expr} {a b : List Stmt} {tc : TT} (hc : PT X c tc) (ha : PSs X a t) (hb : PSs X b u) : PS X (.If c a b pos) (tIfS tc t u) := by
  intro pins s σ H D I h
  refine wpAny_If (thn (hc pins s σ H _ I h) fun d s1 ⟨H1, I1, q1⟩ => ?_)
  cases d with
  | true => exact ha pins s1 σ H1 D I1 q1
  | false => exact hb pins s1 σ H1 D I1 q1
/-- code that the proof never comes to -/
def tNever : TS := fun _ _ _ => False
theorem ps_never : PS X st tNever := fun _ _ _ _ _ _ h => h.elim
end

/-! ### targets -/
abbrev TG := V → St → Hp → (St → Hp → Prop) → Prop
abbrev TGs := List V → St → Hp → (St → Hp → Prop) → Prop
def PG (X : Cx) (target : Expr) (t : TG) : Prop :=
  ∀ (pins : List (Addr × Obj)) (s : Shared) (σ : St) (H : Hp) (v : V) (u : Value) (Q : St → Hp → Prop), Inv X pins σ H s → RelV v u → t v σ H Q →
    wpAny (model X.prog X.w) X.A (assign target X.env u) (fun _ s' => ∃ σ' H', Inv X pins σ' H' s' ∧ Q σ' H') X.xe s
/-- several targets, one after another -/
def PGs (X : Cx) (ts : List Expr) (t : TGs) : Prop :=
  ∀ (pins : List (Addr × Obj)) (s : Shared) (σ : St) (H : Hp) (vs : List V) (us : List Value) (Q : St → Hp → Prop), Inv X pins σ H s → Vals vs us → t vs σ H Q →
    wpAny (model X.prog X.w) X.A (assignInOrder ((assignEach ts X.env).map (·.2)) us) (fun _ s' => ∃ σ' H', Inv X pins σ' H' s' ∧ Q σ' H') X.xe s
/-- o[i] = v, by values -/
abbrev TSet := V → V → V → Hp → (Hp → Prop) → Prop
def PSet (X : Cx) (t : TSet) : Prop :=
  ∀ (pins : List (Addr × Obj)) (s : Shared) (σ : St) (H : Hp) (o i v : V) (ov iv u : Value) (Q : Hp → Prop), Inv X pins σ H s → RelV o ov → RelV i iv → RelV v u → t o i v H Q →
    wpAny (model X.prog X.w) X.A (setItem ov iv u) (fun _ s' => ∃ H', Inv X pins σ H' s' ∧ Q H') X.xe s
/-- a op= b, by values -/
abbrev TIp := V → V → Hp → VK → Prop
def PIp (X : Cx) (op : Operator) (t : TIp) : Prop :=
  ∀ (pins : List (Addr × Obj)) (s : Shared) (σ : St) (H : Hp) (x y : V) (v u : Value) (Q : VK), Inv X pins σ H s → RelV x v → RelV y u → t x y H Q →
    wpAny (model X.prog X.w) X.A (inplaceOp op v u) (EP X pins σ Q) X.xe s
section
variable {X : Cx} {pos : Pos}
def gName (i : Nat) : TG := fun v σ H Q => Q (σ.set i (some v)) H
theorem pg_name {i : Nat} {x : Str} (hN : X.N.Nodup) (hi : X.N[i]? = some x) (hx : Loc X.env.scope x) (hf : X.fn x = true ∨ X.env.scope.names.lookup x = some .local := by first | exact .inl rfl | exact .inr rfl | assumption) : PG X (.Name x pos) (gName i) := by
  intro pins s σ H v u Q I r h
  exact wpAny_assign_Name (store_ok I hN hi hx r (fun s' I' => ⟨_, H, I', h⟩) hf)
def gNil : TGs := fun vs σ H Q => vs = [] ∧ Q σ H
def gCons (t : TG) (u : TGs) : TGs := fun vs σ H Q => ∃ v r, vs = v :: r ∧ t v σ H fun σ' H' => u r σ' H' Q
theorem pgs_nil : PGs X [] gNil := by
  intro pins s σ H vs us Q I r h
  obtain ⟨e, h⟩ := h
  subst e
  cases r
  exact assignInOrder_nil ⟨σ, H, I, h⟩
theorem pgs_cons {e : Expr} {es : List Expr} {t : TG} {u : TGs} (h1 : PG X e t) (h2 : PGs X es u)
    (hs : (assignEach (e :: es) X.env).map (·.2) = assign e X.env :: (assignEach es X.env).map (·.2) := by rfl) : PGs X (e :: es) (gCons t u) := by
  intro pins s σ H vs us Q I r h
  obtain ⟨v, vr, e1, h⟩ := h
  subst e1
  cases r with
  | cons r rr =>
    rw [hs]
    refine assignInOrder_cons (thn (h1 pins s σ H _ _ _ I r h) fun _ s1 ⟨σ1, H1, I1, q1⟩ => ?_)
    exact h2 pins s1 σ1 H1 _ _ Q I1 rr q1
/-- (a, b, ..) = a tuple of that length -/
def gTup (K : PySem.W.Frag) (n : Nat) (t : TGs) : TG := fun v σ H Q => ∃ a xs, v = .ref a ∧ SqT K H a xs ∧ xs.length = n ∧ t xs σ H Q
theorem pg_tup {es : List Expr} {k : Nat} {t : TGs} {n : Nat} (hc : X.calm = true) (h : PGs X es t)
    (hn : (assignEach es X.env).length = n := by rfl) (hst : (assignEach es X.env).findIdx? (·.1) = none := by rfl) : PG X (.Tuple es k pos) (gTup X.K n t) := by
  intro pins s σ H v u Q I r hw
  obtain ⟨a, xs, e1, hq, hl, hw⟩ := hw
  subst e1
  cases r
  obtain ⟨its, rv, ht, hz⟩ := I.tuple hq
  refine assign_Tuple_tuple (I.ok.hd hc) ht (by simp [hn, ← hl, rv.length]) hst fun h' hx => ?_
  have I1 : Inv X pins σ H { s with heap := h' } := I.kept (t' := s.toks) fun b o e => hx b o (Nat.ne_of_lt (Heap.lt_size e)) e
  exact h pins _ σ H xs _ Q I1 (by simpa using rv) hw
/-- o[i] = .. -/
def gSub (to ti : TE) (t : TSet) : TG := fun v σ H Q => to σ H fun o H1 => ti σ H1 fun i H2 => t o i v H2 fun H3 => Q σ H3
theorem pg_sub {o i : Expr} {to ti : TE} {t : TSet} (ho : PE X o to) (hi : PE X i ti) (hs : PSet X t)
    (ha : ∀ v, assign (.Subscript o i pos) X.env v = (do
      let ov ← holding [v] (eval o X.env)
      let iv ← holding [v, ov] (eval i X.env)
      standAt pos
      holding [v, ov, iv] (setItem ov iv v)
      release [v, ov, iv] []) := by intro _; rfl) : PG X (.Subscript o i pos) (gSub to ti t) := by
  intro pins s σ H v u Q I r h
  rw [ha]
  refine wpAny_bind (wpAny_holding (thn (ho pins s σ H _ I h) fun ov s1 ⟨x, H1, I1, r1, q1⟩ => ?_))
  refine wpAny_bind (wpAny_holding (thn (hi pins s1 σ H1 _ I1 q1) fun iv s2 ⟨y, H2, I2, r2, q2⟩ => ?_))
  refine wpAny_bind (wpAny_standAt (wpAny_bind (wpAny_holding (thn (hs pins s2 σ H2 x y v ov iv u _ I2 r1 r2 r q2) fun _ s3 ⟨H3, I3, q3⟩ => ?_))))
  exact wpAny_release ⟨σ, H3, I3, q3⟩
/-- target = value -/
def tAsg (te : TE) (g : TG) : TS := fun D σ H => te σ H fun x H1 => g x σ H1 D.nx
theorem ps_asg {tg e : Expr} {te : TE} {g : TG} (he : PE X e te) (hg : PG X tg g) (hs : swapsWithSole [tg] e pos.line X.env = pure false := by rfl) (hw : swappedStores [tg] e X.env = pure none := by rfl)
    (h1 : (assignEach [tg] X.env).map (·.2) = [assign tg X.env] := by rfl) : PS X (.Assign [tg] e pos) (tAsg te g) := by
  intro pins s σ H D I h
  refine wpAny_Assign_stores (thn (he pins s σ H _ I h) fun v s1 ⟨x, H1, I1, r1, q1⟩ => ?_) hs hw
  rw [h1]
  exact thn (hg pins s1 σ H1 x v _ I1 r1 q1) fun _ s2 q => q
/-- name = value -/
theorem ps_set {i : Nat} {x : Str} {e : Expr} {te : TE} {pos' : Pos} (hN : X.N.Nodup) (hi : X.N[i]? = some x) (hx : Loc X.env.scope x) (he : PE X e te) (hs : swapsWith e (some (.Name x pos')) pos.line X.env = pure false := by rfl) (hf : X.fn x = true ∨ X.env.scope.names.lookup x = some .local := by first | exact .inl rfl | exact .inr rfl | assumption) :
    PS X (.Assign [.Name x pos'] e pos) (tAsg te (gName i)) := by
  intro pins s σ H D I h
  refine wpAny_Assign_Name (thn (he pins s σ H _ I h) fun v s1 ⟨y, H1, I1, r1, q1⟩ => ?_) hs
  exact store_ok I1 hN hi hx r1 (fun s2 I2 => ⟨_, H1, I2, q1⟩) hf
/-- a, b = x, y with plain local names: stored from the right; the pair itself is not tracked (the opening rows as in PyProof/Rows/TupAssign.lean:23) -/
def tPar (i j : Nat) (ta : TA) : TS := fun D σ H => ta σ H fun vs H1 => ∃ v w, vs = [v, w] ∧ D.nx ((σ.set i (some v)).set j (some w)) H1
theorem ps_par {i j : Nat} {x y : Str} {a b : Expr} {ta : TA} {px py pt : Pos} {kt k2 pt2} (hc : X.calm = true) (hN : X.N.Nodup) (hi : X.N[i]? = some x) (hj : X.N[j]? = some y) (hij : i ≠ j)
    (hx : X.env.scope.names.lookup x = some .local) (hy : X.env.scope.names.lookup y = some .local) (ha : PA X [a, b] ta)
    (hw : swappedStores [.Tuple [.Name x px, .Name y py] kt pt] (.Tuple [a, b] k2 pt2) X.env = pure (some [x, y]))
    (hs : swapsWithSole [.Tuple [.Name x px, .Name y py] kt pt] (.Tuple [a, b] k2 pt2) pos.line X.env = pure false := by rfl) :
    PS X (.Assign [.Tuple [.Name x px, .Name y py] kt pt] (.Tuple [a, b] k2 pt2) pos) (tPar i j ta) := by
  intro pins s σ H D I h
  rw [exec_Assign_arm]
  refine wpAny_bind (wpAny_standAt ?_)
  rw [hs]
  refine wpAny_bind (wpAny_pure ?_)
  rw [if_neg (by decide)]
  refine wpAny_bind (Tuple_ (thn (ha _ pins s σ H _ I h) fun us s1 ⟨vs, H1, I1, r1, q1⟩ => ?_))
  obtain ⟨v, w, e1, q1⟩ := q1
  subst e1
  obtain ⟨u1, u2, rfl, rv, rw'⟩ : ∃ u1 u2, us = [u1, u2] ∧ RelV v u1 ∧ RelV w u2 := by
    cases r1 with
    | cons p q =>
      cases q with
      | cons p' q' =>
        cases q'
        exact ⟨_, _, rfl, p, p'⟩
  refine wpAny_newObj_type ?_ (by show 2 ≤ sizeLine; decide)
  have I2 : Inv X pins σ H1 { s1 with heap := s1.heap.push { cls := .type "tuple", data := .seq [u1, u2].toArray } } := I1.kept (t' := s1.toks) fun b o e => Heap.get?_push_of_some _ e
  rw [hw]
  refine wpAny_bind (wpAny_pure ?_)
  show wpAny (model X.prog X.w) X.A (do rule "assign.swapped-stores"; let items ← unpackItems (.ref s1.heap.objs.size) 2 none; assignInOrder [fun v => bindName X.env y v, fun v => bindName X.env x v] items.reverse; pure Flow.next) _ _ _
  refine wpAny_bind (wpAny_rule (wpAny_bind (unpackItems_tuple (items := #[u1, u2]) (I.ok.hd hc) (IsTup.new s1.heap _) fun h' hx' => ?_)))
  have I3 := I2.kept (h' := h') (t' := s1.toks) fun b o e => hx' b o (Nat.ne_of_lt (Heap.lt_size e)) e
  show wpAny _ _ (assignInOrder [fun v => bindName X.env y v, fun v => bindName X.env x v] [u2, u1] >>= fun _ => pure Flow.next) _ _ _
  refine wpAny_bind (assignInOrder_cons (wpAny_bindName (store_ok I3 hN hj (.inl hy) rw' (fun s2 I4 => ?_) (.inr hy))))
  refine assignInOrder_cons (wpAny_bindName (store_ok I4 hN hi (.inl hx) rv (fun s3 I5 => assignInOrder_nil (wpAny_pure ?_)) (.inr hx)))
  rw [List.set_comm _ _ (Ne.symm hij)] at I5
  exact ⟨_, H1, I5, q1⟩
/-- name op= e -/
def tAug (i : Nat) (te : TE) (ti : TIp) : TS := fun D σ H => ∃ x, σ[i]? = some (some x) ∧ te σ H fun y H1 => ti x y H1 fun z H2 => D.nx (σ.set i (some z)) H2
/-- o[i] op= e -/
def tAugS (to ti te : TE) (tget : V → V → Hp → VK → Prop) (tip : TIp) (tset : TSet) : TS := fun D σ H => to σ H fun o H1 => ti σ H1 fun i H2 => tget o i H2 fun x H3 => te σ H3 fun y H4 => tip x y H4 fun z H5 => tset o i z H5 fun H6 => D.nx σ H6
/-- o[i], by values -/
def PGet (X : Cx) (t : V → V → Hp → VK → Prop) : Prop :=
  ∀ (pins : List (Addr × Obj)) (s : Shared) (σ : St) (H : Hp) (o i : V) (ov iv : Value) (Q : VK), Inv X pins σ H s → RelV o ov → RelV i iv → t o i H Q →
    wpAny (model X.prog X.w) X.A (getItem ov iv) (EP X pins σ Q) X.xe s
/-- ints -/
def ipI (f : Int → Int → Int) : TIp := fun x y H Q => ∃ i j, x = .int i ∧ y = .int j ∧ Q (.int (f i j)) H
end

/-! ### while -/
section
variable {X : Cx} {pos : Pos}
/-- the invariant W with its measure -/
def tWhile (c : TT) (tb : TS) : TS := fun D σ H => ∃ W : Nat → St → Hp → Prop, (∃ m, W m σ H) ∧ ∀ m σ H, W m σ H →
  c σ H fun b H1 => if b = true then ∃ N : St → Hp → Prop, (∀ σ' H', N σ' H' → ∃ m', m' < m ∧ W m' σ' H') ∧ tb { D with nx := N, ct := N, bk := D.nx } σ H1 else D.nx σ H1
theorem ps_while {c : Expr} {body : List Stmt} {tc : TT} {tb : TS} (hp : PassesOwn (model X.prog X.w) X.A X.env X.xe) (hc : PT X c tc) (hb : PSs X body tb) : PS X (.While c body [] pos) (tWhile tc tb) := by
  intro pins s σ H D I h
  obtain ⟨W, ⟨m0, w0⟩, turn⟩ := h
  refine wpAny_While (codeAny_whileLoop (fun n s' => ∃ σ' H', Inv X pins σ' H' s' ∧ W n σ' H') ?_ m0 ⟨σ, H, I, w0⟩)
  rintro n s1 ⟨σ1, H1, I1, w1⟩
  refine wpAny_passesOwn hp (thn (hc pins s1 σ1 H1 _ I1 (turn n σ1 H1 w1)) fun b s2 ⟨H2, I2, q2⟩ => ?_)
  cases b with
  | true =>
    obtain ⟨N, hN, q2⟩ := q2
    rw [if_pos rfl]
    refine wpAny_passesOwn hp (thn (hb pins s2 σ1 H2 _ I2 q2) fun f s3 q3 => ?_)
    cases f with
    | next =>
      obtain ⟨σ3, H3, I3, n3⟩ := q3
      obtain ⟨m', hm, w3⟩ := hN σ3 H3 n3
      exact ⟨m', hm, σ3, H3, I3, w3⟩
    | cont =>
      obtain ⟨σ3, H3, I3, n3⟩ := q3
      obtain ⟨m', hm, w3⟩ := hN σ3 H3 n3
      exact ⟨m', hm, σ3, H3, I3, w3⟩
    | brk => exact q3
    | ret v => exact q3
  | false =>
    rw [if_neg Bool.false_ne_true]
    exact wpAny_execs_nil ⟨σ1, H2, I2, q2⟩
end

/-! ### what a loop or a comprehension walks -/
/-- at turn i: it yields x (the heap may grow), or it stops -/
structure It where
  go : Nat → Hp → Prop
  yld : Nat → Hp → V → Hp → Prop
  stop : Nat → Hp → Prop
/-- the iterator's own objects may turn: they are not the frame's, not pinned, younger than the entry (or a comprehension's own) -/
def FpOk (X : Cx) (pins : List (Addr × Obj)) (H : Hp) (b : Addr) : Prop :=
  H b = none ∧ b ≠ X.env.locals ∧ b ∉ X.fs ∧ (b ∈ X.ex ∨ X.s₀.heap.objs.size ≤ b) ∧ (∀ x c, X.env.cells.lookup x = some c → c ≠ b) ∧ ∀ p ∈ X.pn ++ pins, p.1 ≠ b
theorem Inv.fpOk {X : Cx} {pins : List (Addr × Obj)} {σ : St} {H H' : Hp} {s : Shared} {b : Addr} (I : Inv X pins σ H s) (hb : s.heap.objs.size ≤ b) (hn : H' b = none) : FpOk X pins H' b := by
  refine ⟨hn, Nat.ne_of_gt (Nat.lt_of_lt_of_le I.lt hb), I.nofs hb, .inr (Nat.le_trans I.sz hb), fun x c e z => ?_, fun p hp z => ?_⟩
  · obtain ⟨v, q⟩ := I.cell x c e
    exact absurd (Nat.lt_of_lt_of_le q.lt (by rw [z]; exact hb)) (Nat.lt_irrefl _)
  · exact absurd (Nat.lt_of_lt_of_le (Heap.lt_size (I.pin p hp).1) (by rw [z]; exact hb)) (Nat.lt_irrefl _)
structure Turn (P : Program) (w : World) (K : PySem.W.Frag) (tg : Expr) (J : It) (fp : List Addr) (it : Addr) (tn : Nat → Heap → Prop) : Prop where
  mem : it ∈ fp
  obj : ∀ i h, tn i h → ∀ b ∈ fp, ∃ o, h.get? b = some o ∧ ∀ v, o.data ≠ .cell v
  keep : ∀ i h h', tn i h → (∀ b ∈ fp, ∀ o, h.get? b = some o → h'.get? b = some o) → tn i h'
  item : ∀ (X : Cx), X.prog = P → X.w = w → X.K = K → X.calm = true → ∀ (i : Nat) (pins : List (Addr × Obj)) (s : Shared) (σ : St) (H : Hp) (E : Value → Shared → Prop), Inv X pins σ H s → (∀ b ∈ fp, FpOk X pins H b) → tn i s.heap → J.go i H →
    wpAny (model P w) X.A (pyNext (.ref it)) (fun r s1 => ∃ u, r = some u ∧
      wpAny (model P w) X.A (letOwnedTupleGo tg (.ref it) u) (fun _ s2 => ∃ x H', Inv X pins σ H' s2 ∧ RelV x u ∧ J.yld i H x H' ∧ tn (i + 1) s2.heap ∧ ∀ b ∈ fp, H' b = none) E s1) E s
  done : ∀ (X : Cx), X.prog = P → X.w = w → X.K = K → X.calm = true → ∀ (i : Nat) (pins : List (Addr × Obj)) (s : Shared) (σ : St) (H : Hp) (E : Value → Shared → Prop), Inv X pins σ H s → (∀ b ∈ fp, FpOk X pins H b) → tn i s.heap → J.stop i H →
    wpAny (model P w) X.A (pyNext (.ref it)) (fun r s1 => r = none ∧ Inv X pins σ H s1) E s
  self : ∀ (A : Around) (i : Nat) (s : Shared) (Q : Value → Shared → Prop) (E : Value → Shared → Prop), tn i s.heap → Q (.ref it) s → wpAny (model P w) A (pyIter (.ref it)) Q E s
abbrev TI := St → Hp → (It → Hp → Prop) → Prop
/-- an iterator has come -/
def PIE (X : Cx) (pins : List (Addr × Obj)) (σ : St) (tg : Expr) (R : It → Hp → Prop) (itv : Value) (s2 : Shared) : Prop :=
  ∃ (it : Addr) (fp : List Addr) (tn : Nat → Heap → Prop) (J : It) (H' : Hp), itv = .ref it ∧ Inv X pins σ H' s2 ∧ Turn X.prog X.w X.K tg J fp it tn ∧ tn 0 s2.heap ∧ (∀ b ∈ fp, FpOk X pins H' b) ∧ R J H'
def PI (X : Cx) (tg iter : Expr) (wi : TI) : Prop :=
  ∀ (pins : List (Addr × Obj)) (s : Shared) (σ : St) (H : Hp) (R : It → Hp → Prop), Inv X pins σ H s → wi σ H R →
    wpAny (model X.prog X.w) X.A (eval iter X.env) (fun v s1 => wpAny (model X.prog X.w) X.A (pyIter v) (PIE X pins σ tg R) X.xe s1) X.xe s

/-- the step ahead of the store is nothing for an iterator that keeps no tuple -/
theorem go_of {M : Model} {A : Around} {E : Value → Shared → Prop} {s : Shared} {tg : Expr} {it : Addr} {u : Value} {o : Obj} {n : String} {vs : Array Value} {Q : Unit → Shared → Prop} (ho : s.heap.get? it = some o) (hc : o.cls = .type n) (hd : o.data = .fields vs)
    (hn : ["enumerate", "zip", "dict_itemiterator", "dict_reverseitemiterator", "odict_iterator", "itertools.zip_longest", "itertools.pairwise"].contains n = false) (hQ : Q () s) : wpAny M A (letOwnedTupleGo tg (.ref it) u) Q E s := by
  unfold letOwnedTupleGo
  cases tg <;> first
    | exact wpAny_pure hQ
    | (cases u <;> first
        | exact wpAny_pure hQ
        | (refine wpAny_bind (wpAny_load ho ?_)
           rw [hc, hd]
           show wpAny M A (if (["enumerate", "zip", "dict_itemiterator", "dict_reverseitemiterator", "odict_iterator", "itertools.zip_longest", "itertools.pairwise"].contains n && vs[0]? == some (rawInt _)) = true then _ else _) Q E s
           rw [if_neg (by intro h; rw [hn, Bool.false_and] at h; cases h)]
           exact wpAny_pure hQ))

/-- the list at a, as it stands at each turn (a loop may append to it) -/
def Itl (K : PySem.W.Frag) (a : Addr) : It :=
  ⟨fun i H => ∃ xs x, SqL K H a xs ∧ xs[i]? = some x, fun i H x H' => H' = H ∧ ∀ xs, SqL K H a xs → xs[i]? = some x, fun i H => ∃ xs, SqL K H a xs ∧ xs.length ≤ i⟩
def Itt (K : PySem.W.Frag) (a : Addr) : It :=
  ⟨fun i H => ∃ xs x, SqT K H a xs ∧ xs[i]? = some x, fun i H x H' => H' = H ∧ ∀ xs, SqT K H a xs → xs[i]? = some x, fun i H => ∃ xs, SqT K H a xs ∧ xs.length ≤ i⟩
/-- lo, lo + 1, .. (n of them) -/
def Itr (lo : Int) (n : Nat) : It := ⟨fun i _ => i < n, fun i H x H' => H' = H ∧ x = .int (lo + i), fun i _ => n ≤ i⟩
theorem turn_list {P : Program} {w : World} {K : PySem.W.Frag} {tg : Expr} (a it : Addr) : Turn P w K tg (Itl K a) [it] it (fun i h => h.IsListIter it a i) where
  mem := by simp
  obj := fun i h st b hb => by
    have e : b = it := by simpa using hb
    subst e
    obtain ⟨o, e, c, d⟩ := st
    exact ⟨o, e, fun v z => by rw [d] at z; cases z⟩
  keep := fun i h h' st k => st.at fun o e => k it (by simp) o e
  item := by
    intro X hP hw hK hc i pins s σ H E I hf st hg
    subst hP hw hK
    obtain ⟨xs, x, hq, hx⟩ := hg
    obtain ⟨its, rv, p, hz⟩ := I.list hq
    obtain ⟨u, hu, ru⟩ := rv.get hx
    obtain ⟨f0, f1, f2, f3, f4, f5⟩ := hf it (by simp)
    refine wpAny_pyNext_list_item st p.isList (x := u) (by simpa using hu) fun h' st' sb => ?_
    have I1 : Inv X pins σ H { s with heap := h' } := I.turned (t' := s.toks) (fun b o hb e => (sb.2 b hb).trans e) f0 f1 f3 f4 f5
    obtain ⟨o, e, c, d⟩ := id st'
    exact ⟨u, rfl, go_of (s := { s with heap := h' }) e c d (by decide) ⟨x, H, I1, ru, ⟨rfl, fun ys hy => by rw [I.list_inj hy hq]; exact hx⟩, st', fun b hb => (hf b hb).1⟩⟩
  done := by
    intro X hP hw hK hc i pins s σ H E I hf st hg
    subst hP hw hK
    obtain ⟨xs, hq, hx⟩ := hg
    obtain ⟨its, rv, p, hz⟩ := I.list hq
    obtain ⟨f0, f1, f2, f3, f4, f5⟩ := hf it (by simp)
    have hl := rv.length
    exact wpAny_pyNext_list_end (I.ok.hd hc) st p.isList (by simp; omega) fun h' eb => ⟨rfl, I.turned (t' := s.toks) (fun b o hb e => eb b o hb e) f0 f1 f3 f4 f5⟩
  self := fun _ _ _ _ _ st h => wpAny_pyIter_listiter st h
theorem turn_range {P : Program} {w : World} {K : PySem.W.Frag} {tg : Expr} (it : Addr) (lo : Int) (n : Nat) : Turn P w K tg (Itr lo n) [it] it (fun i h => IsRangeIter h it (lo + (i : Nat) * 1) ((n : Int) - (i : Nat)) 1) where
  mem := by simp
  obj := fun i h st b hb => by
    have e : b = it := by simpa using hb
    subst e
    exact ⟨_, st, fun v z => by
      have z' : Data.fields _ = Data.cell v := z
      cases z'⟩
  keep := fun i h h' st k => k it (by simp) _ st
  item := by
    intro X hP hw hK hc i pins s σ H E I hf st hg
    subst hP hw hK
    obtain ⟨f0, f1, f2, f3, f4, f5⟩ := hf it (by simp)
    have W := Walks.range (prog := X.prog) (w := X.w) (I.ok.hd hc) it lo 1 n
    refine W.item i s _ _ hg st fun v h' tk hv st' kk => ?_
    obtain ⟨t, rfl⟩ := hv
    have I1 : Inv X pins σ H { s with heap := h', toks := tk } := I.turned (fun b o hb e => kk b o (by simpa using hb) e) f0 f1 f3 f4 f5
    refine ⟨_, rfl, go_of (s := { s with heap := h', toks := tk }) (n := "range_iterator") st' rfl rfl (by decide) ⟨.int (lo + i), H, I1, ⟨t, ?_⟩, ⟨rfl, rfl⟩, st', fun b hb => (hf b hb).1⟩⟩
    rw [Int.mul_one]
  done := by
    intro X hP hw hK hc i pins s σ H E I hf st hg
    subst hP hw hK
    obtain ⟨f0, f1, f2, f3, f4, f5⟩ := hf it (by simp)
    exact wpAny_pyNext_range_end (I.ok.hd hc) st (by have : n ≤ i := hg; omega) fun h' eb => ⟨rfl, I.turned (t' := s.toks) (fun b o hb e => eb b o hb e) f0 f1 f3 f4 f5⟩
  self := fun _ _ _ _ _ st h => wpAny_pyIter_rangeiter st h
end L2

namespace L2
open PySem PySem.Spec PyProof.Rows
section
variable {X : Cx} {tg : Expr}
def iList (K : PySem.W.Frag) (tl : TE) : TI := fun σ H R => tl σ H fun x H1 => ∃ a, x = .ref a ∧ (∃ xs, SqL K H1 a xs) ∧ R (Itl K a) H1
def iTup (K : PySem.W.Frag) (tl : TE) : TI := fun σ H R => tl σ H fun x H1 => ∃ a, x = .ref a ∧ (∃ xs, SqT K H1 a xs) ∧ R (Itt K a) H1
theorem pi_list {l : Expr} {tl : TE} (hl : PE X l tl) : PI X tg l (iList X.K tl) := by
  intro pins s σ H R I h
  refine thn (hl pins s σ H _ I h) fun v s1 ⟨x, H1, I1, r1, q1⟩ => ?_
  obtain ⟨a, e, ⟨xs, hq⟩, q⟩ := q1
  subst e
  cases r1
  obtain ⟨its, rv, p, hz⟩ := I1.list hq
  refine wpAny_pyIter_list p.isList ?_
  refine ⟨s1.heap.objs.size, [s1.heap.objs.size], _, _, H1, rfl, I1.kept (t' := s1.toks) fun b o e => Heap.get?_push_of_some _ e, turn_list a _, ⟨_, Heap.get?_push_size _ rfl, rfl, rfl⟩, fun b hb => ?_, q⟩
  have e : b = s1.heap.objs.size := by simpa using hb
  subst e
  exact I1.fpOk (Nat.le_refl _) (I1.hok.fresh (Nat.le_refl _))
/-- a range object just made, walked -/
theorem range_it {pins : List (Addr × Obj)} {σ : St} {H : Hp} {s : Shared} {R : It → Hp → Prop} {E : Value → Shared → Prop} {lo hi : Int} {t u v : Tok} {tk : Nat} (I : Inv X pins σ H s) (h1 : -(2 ^ 62) ≤ lo) (h2 : lo < 2 ^ 62) (h3 : -(2 ^ 62) ≤ hi) (h4 : hi < 2 ^ 62)
    (q : R (Itr lo (hi - lo).toNat) H) : wpAny (model X.prog X.w) X.A (pyIter (.ref s.heap.objs.size)) (PIE X pins σ tg R) E { s with heap := s.heap.push { cls := .type "range", data := .fields #[.int lo t, .int hi u, .int 1 v] }, toks := tk } := by
  refine wpAny_pyIter_range (IsRange.new ..) (small_one h1 h2 h3 h4) ?_
  have I1 : Inv X pins σ H { s with heap := s.heap.push { cls := .type "range", data := .fields #[.int lo t, .int hi u, .int 1 v] }, toks := tk } := I.kept fun b o e => Heap.get?_push_of_some _ e
  refine ⟨(s.heap.push { cls := .type "range", data := .fields #[.int lo t, .int hi u, .int 1 v] }).objs.size, [(s.heap.push { cls := .type "range", data := .fields #[.int lo t, .int hi u, .int 1 v] }).objs.size], _, _, H, rfl,
    I1.kept (t' := tk) fun b o e => Heap.get?_push_of_some _ e, turn_range _ lo (hi - lo).toNat, ?_, fun b hb => ?_, q⟩
  · have e1 : lo + ((0 : Nat) : Int) * 1 = lo := by simp
    have e2 : (((hi - lo).toNat : Nat) : Int) - ((0 : Nat) : Int) = Builtin.Range.rangeSize lo hi 1 := by rw [rangeSize_one]; split <;> omega
    show IsRangeIter _ _ (lo + ((0 : Nat) : Int) * 1) ((((hi - lo).toNat : Nat) : Int) - ((0 : Nat) : Int)) 1
    rw [e1, e2]
    exact Heap.get?_push_size _ rfl
  · have e : b = (s.heap.push { cls := .type "range", data := .fields #[.int lo t, .int hi u, .int 1 v] }).objs.size := by simpa using hb
    subst e
    exact I1.fpOk (Nat.le_refl _) (I1.hok.fresh (Nat.le_refl _))
def iRng1 (ta : TA) : TI := fun σ H R => ta σ H fun vs H1 => ∃ j : Int, vs = [.int j] ∧ -(2 ^ 62) ≤ j ∧ j < 2 ^ 62 ∧ R (Itr 0 j.toNat) H1
def iRng2 (ta : TA) : TI := fun σ H R => ta σ H fun vs H1 => ∃ i j : Int, vs = [.int i, .int j] ∧ (-(2 ^ 62) ≤ i ∧ i < 2 ^ 62 ∧ -(2 ^ 62) ≤ j ∧ j < 2 ^ 62) ∧ R (Itr i (j - i).toNat) H1
theorem pi_range1 {a : Expr} {ta : TA} {p pos : Pos} (hg : Gl X "range") (hm : X.mg "range" = none) (ha : PA X [a] ta) (hs : starEach [a] X.env = [(false, eval a X.env)] := by rfl) : PI X tg (.Call (.Name "range" p) [a] [] pos) (iRng1 ta) := by
  intro pins s σ H R I h
  refine Call_ (ld_blt I hg hm boot_range (PyProof.Rows.callWith_type1 (thn (ha pos pins s σ H _ I h) fun us s1 ⟨vs, H1, I1, r1, q1⟩ => ?_) hs rfl))
  obtain ⟨j, e, q1, q2, q⟩ := q1
  subst e
  cases r1 with
  | cons r rr =>
    cases rr
    obtain ⟨t, rfl⟩ := r
    exact call_range_1 (range_it I1 (by omega) (by omega) q1 q2 (by simpa using q))
theorem pi_range2 {a b : Expr} {ta : TA} {p pos : Pos} (hg : Gl X "range") (hm : X.mg "range" = none) (ha : PA X [a, b] ta) (hs : starEach [a, b] X.env = [(false, eval a X.env), (false, eval b X.env)] := by rfl) (hs2 : starEach [b] X.env = [(false, eval b X.env)] := by rfl) :
    PI X tg (.Call (.Name "range" p) [a, b] [] pos) (iRng2 ta) := by
  intro pins s σ H R I h
  refine Call_ (ld_blt I hg hm boot_range (PyProof.Rows.callWith_type1 (thn (ha pos pins s σ H _ I h) fun us s1 ⟨vs, H1, I1, r1, q1⟩ => ?_) (by rw [hs, hs2]) (by rw [hs2]; rfl)))
  obtain ⟨i, j, e, ⟨q1, q2, q3, q4⟩, q⟩ := q1
  subst e
  cases r1 with
  | cons r rr =>
    cases rr with
    | cons r' rr =>
      cases rr
      obtain ⟨t, rfl⟩ := r
      obtain ⟨t', rfl⟩ := r'
      exact call_range_2 (range_it I1 q1 q2 q3 q4 q)

/-! ### for -/
/-- W: the invariant by the turn and a measure; N: what the body is to reach -/
def tFor (wi : TI) (g : TG) (tb : TS) : TS := fun D σ H => wi σ H fun J H1 => ∃ W : Nat → Nat → St → Hp → Prop, (∃ m, W 0 m σ H1) ∧ ∀ i m σ H, W i m σ H →
  (J.stop i H ∧ D.nx σ H) ∨ (J.go i H ∧ ∃ N : St → Hp → Prop, (∀ σ' H', N σ' H' → ∃ m', m' < m ∧ W (i + 1) m' σ' H') ∧ ∀ x H', J.yld i H x H' → g x σ H' fun σ2 H2 => tb { D with nx := N, ct := N, bk := D.nx } σ2 H2)
/-- the records at fp as they stand -/
def pinsAt (fp : List Addr) (h : Heap) : List (Addr × Obj) := fp.filterMap fun b => (h.get? b).map fun o => (b, o)
theorem mem_pinsAt {fp : List Addr} {h : Heap} {b : Addr} {o : Obj} (hb : b ∈ fp) (e : h.get? b = some o) : (b, o) ∈ pinsAt fp h := List.mem_filterMap.mpr ⟨b, hb, by rw [e]; rfl⟩
theorem of_pinsAt {fp : List Addr} {h : Heap} {p : Addr × Obj} (hp : p ∈ pinsAt fp h) : p.1 ∈ fp ∧ h.get? p.1 = some p.2 := by
  obtain ⟨b, hb, e⟩ := List.mem_filterMap.mp hp
  cases q : h.get? b with
  | none => rw [q] at e; cases e
  | some o =>
    rw [q] at e
    have e' : (b, o) = p := Option.some.inj e
    subst e'
    exact ⟨hb, q⟩
theorem Inv.pinned {pins : List (Addr × Obj)} {σ : St} {H : Hp} {s : Shared} {fp : List Addr} (I : Inv X pins σ H s) (hf : ∀ b ∈ fp, FpOk X pins H b) (ho : ∀ b ∈ fp, ∃ o, s.heap.get? b = some o ∧ ∀ v, o.data ≠ .cell v) : Inv X (pins ++ pinsAt fp s.heap) σ H s :=
  I.pins_of fun p hp => (List.mem_append.mp hp).elim (fun z => I.pin p (List.mem_append_right _ z)) fun z => by
    obtain ⟨hb, e⟩ := of_pinsAt z
    obtain ⟨f0, f1, f2, _⟩ := hf p.1 hb
    obtain ⟨o, e', d⟩ := ho p.1 hb
    rw [e] at e'; cases e'
    exact ⟨e, f0, f1, f2, d⟩
theorem Inv.unpinned {pins pl : List (Addr × Obj)} {σ : St} {H : Hp} {s : Shared} (I : Inv X (pins ++ pl) σ H s) : Inv X pins σ H s := I.pins_of fun p hp => I.pin p (List.mem_append_right _ (List.mem_append_left _ hp))
theorem ps_for {iter : Expr} {body : List Stmt} {wi : TI} {g : TG} {tb : TS} {pos : Pos} (hp : PassesOwn (model X.prog X.w) X.A X.env X.xe) (hc : X.calm = true) (hi : PI X tg iter wi) (hg : PG X tg g) (hb : PSs X body tb)
    (hs : ∀ x, foldedSetIterable iter X.env x = pure x := by intro _; rfl) : PS X (.For tg iter body [] pos) (tFor wi g tb) := by
  intro pins s σ H D I h
  refine wpAny_For (thn (hi pins s σ H _ I h) fun v s1 h1 => thn h1 fun itv s2 h2 => ?_) hs
  obtain ⟨it, fp, tn, J, H2, e, I2, T, st2, f2, W, ⟨m0, w0⟩, turn⟩ := h2
  subst e
  -- what stays true of the iterator's objects through the loop
  have stat : ∀ {H' : Hp}, (∀ b ∈ fp, H' b = none) → ∀ b ∈ fp, FpOk X pins H' b := fun hn b hb => ⟨hn b hb, (f2 b hb).2⟩
  refine codeAny_forLoop_any (fun n s' => ∃ i σ' H', Inv X pins σ' H' s' ∧ tn i s'.heap ∧ (∀ b ∈ fp, H' b = none) ∧ W i n σ' H') ?_ m0 ⟨0, σ, H2, I2, st2, fun b hb => (f2 b hb).1, w0⟩
  rintro n s3 ⟨i, σ3, H3, I3, st3, fr3, w3⟩
  rcases turn i n σ3 H3 w3 with ⟨stop, qn⟩ | ⟨go, N, hN, step⟩
  · refine wpAny_passesOwn hp (thn (T.done X rfl rfl rfl hc i pins s3 σ3 H3 X.xe I3 (stat fr3) st3 stop) fun r s4 ⟨hr, I4⟩ => ?_)
    subst hr
    exact wpAny_execs_nil ⟨σ3, H3, I4, qn⟩
  · refine wpAny_passesOwn hp (thn (T.item X rfl rfl rfl hc i pins s3 σ3 H3 X.xe I3 (stat fr3) st3 go) fun r s4 ⟨u, hr, h4⟩ => ?_)
    subst hr
    refine wpAny_passesOwn hp (thn h4 fun _ s5 ⟨x, H5, I5, r5, y5, st5, fr5⟩ => ?_)
    have I5' := I5.pinned (stat fr5) (T.obj _ _ st5)
    refine wpAny_passesOwn hp (thn (hg _ s5 σ3 H5 x u _ I5' r5 (step x H5 y5)) fun _ s6 ⟨σ6, H6, I6, q6⟩ => ?_)
    refine wpAny_passesOwn hp (thn (hb _ s6 σ6 H6 _ I6 q6) fun f s7 q7 => ?_)
    have again : ∀ {σ7 : St} {H7 : Hp}, Inv X (pins ++ pinsAt fp s5.heap) σ7 H7 s7 → N σ7 H7 → ∃ m, m < n ∧ ∃ i σ' H', Inv X pins σ' H' s7 ∧ tn i s7.heap ∧ (∀ b ∈ fp, H' b = none) ∧ W i m σ' H' := fun {σ7 H7} I7 n7 => by
      obtain ⟨m', hm, w7⟩ := hN σ7 H7 n7
      refine ⟨m', hm, i + 1, σ7, H7, I7.unpinned, T.keep _ _ _ st5 fun b hb o e => (I7.pin (b, o) (List.mem_append_right _ (List.mem_append_right _ (mem_pinsAt hb e)))).1, fun b hb => ?_, w7⟩
      obtain ⟨o, e, d⟩ := T.obj _ _ st5 b hb
      exact (I7.pin (b, o) (List.mem_append_right _ (List.mem_append_right _ (mem_pinsAt hb e)))).2.1
    cases f with
    | next => obtain ⟨σ7, H7, I7, n7⟩ := q7; exact again I7 n7
    | cont => obtain ⟨σ7, H7, I7, n7⟩ := q7; exact again I7 n7
    | brk => obtain ⟨σ7, H7, I7, q7⟩ := q7; exact ⟨σ7, H7, I7.unpinned, q7⟩
    | ret v => obtain ⟨x7, σ7, H7, I7, r7, q7⟩ := q7; exact ⟨x7, σ7, H7, I7.unpinned, r7, q7⟩
end

/-! ### the forms one uses -/
/-- over a list that the body leaves as it is -/
theorem for_list {K : PySem.W.Frag} {a : Addr} {xs : List V} {g : TG} {tb : TS} {D : Ends} {σ : St} {H : Hp} (Pv : Nat → St → Hp → Prop) (h0 : Pv 0 σ H) (hl : ∀ i σ H, i ≤ xs.length → Pv i σ H → SqL K H a xs)
    (hs : ∀ i x σ H, xs[i]? = some x → Pv i σ H → g x σ H fun σ2 H2 => tb { D with nx := Pv (i + 1), ct := Pv (i + 1), bk := D.nx } σ2 H2) (hd : ∀ σ H, Pv xs.length σ H → D.nx σ H) :
    ∃ W : Nat → Nat → St → Hp → Prop, (∃ m, W 0 m σ H) ∧ ∀ i m σ H, W i m σ H →
      ((Itl K a).stop i H ∧ D.nx σ H) ∨ ((Itl K a).go i H ∧ ∃ N : St → Hp → Prop, (∀ σ' H', N σ' H' → ∃ m', m' < m ∧ W (i + 1) m' σ' H') ∧ ∀ x H', (Itl K a).yld i H x H' → g x σ H' fun σ2 H2 => tb { D with nx := N, ct := N, bk := D.nx } σ2 H2) := by
  refine ⟨fun i m σ H => m = xs.length - i ∧ i ≤ xs.length ∧ Pv i σ H, ⟨xs.length, by simp, Nat.zero_le _, h0⟩, ?_⟩
  rintro i m σ H ⟨rfl, hi, p⟩
  have q := hl i σ H hi p
  by_cases hlt : i < xs.length
  · refine .inr ⟨⟨xs, xs[i], q, by simp [hlt]⟩, Pv (i + 1), fun σ' H' p' => ⟨xs.length - (i + 1), by omega, rfl, hlt, p'⟩, fun x H' y => ?_⟩
    obtain ⟨e, y⟩ := y
    subst e
    exact hs i x σ _ (y xs q) p
  · have e : i = xs.length := by omega
    subst e
    exact .inl ⟨⟨xs, q, Nat.le_refl _⟩, hd σ H p⟩
theorem for_range {lo : Int} {n : Nat} {g : TG} {tb : TS} {D : Ends} {σ : St} {H : Hp} (Pv : Nat → St → Hp → Prop) (h0 : Pv 0 σ H)
    (hs : ∀ i σ H, i < n → Pv i σ H → g (.int (lo + i)) σ H fun σ2 H2 => tb { D with nx := Pv (i + 1), ct := Pv (i + 1), bk := D.nx } σ2 H2) (hd : ∀ σ H, Pv n σ H → D.nx σ H) :
    ∃ W : Nat → Nat → St → Hp → Prop, (∃ m, W 0 m σ H) ∧ ∀ i m σ H, W i m σ H →
      ((Itr lo n).stop i H ∧ D.nx σ H) ∨ ((Itr lo n).go i H ∧ ∃ N : St → Hp → Prop, (∀ σ' H', N σ' H' → ∃ m', m' < m ∧ W (i + 1) m' σ' H') ∧ ∀ x H', (Itr lo n).yld i H x H' → g x σ H' fun σ2 H2 => tb { D with nx := N, ct := N, bk := D.nx } σ2 H2) := by
  refine ⟨fun i m σ H => m = n - i ∧ i ≤ n ∧ Pv i σ H, ⟨n, by simp, Nat.zero_le _, h0⟩, ?_⟩
  rintro i m σ H ⟨rfl, hi, p⟩
  by_cases hlt : i < n
  · refine .inr ⟨hlt, Pv (i + 1), fun σ' H' p' => ⟨n - (i + 1), by omega, rfl, hlt, p'⟩, fun x H' y => ?_⟩
    obtain ⟨e, y⟩ := y
    subst e y
    exact hs i σ _ hlt p
  · have e : i = n := by omega
    subst e
    exact .inl ⟨Nat.le_refl _, hd σ H p⟩
end L2

namespace L2
open PySem PySem.Spec PyProof.Rows

abbrev R2 := V → V → Hp → VK → Prop
/-- a two-place operation on values: f is binaryOp op, inplaceOp op or compareOp op -/
def OpR (X : Cx) (f : Value → Value → Sem Value) (r : R2) : Prop :=
  ∀ (pins : List (Addr × Obj)) (s : Shared) (σ : St) (H : Hp) (x y : V) (v u : Value) (Q : VK), Inv X pins σ H s → RelV x v → RelV y u → r x y H Q →
    wpAny (model X.prog X.w) X.A (f v u) (EP X pins σ Q) X.xe s
/-- a one-place operation -/
def UnR (X : Cx) (f : Value → Sem Value) (r : V → Hp → VK → Prop) : Prop :=
  ∀ (pins : List (Addr × Obj)) (s : Shared) (σ : St) (H : Hp) (x : V) (v : Value) (Q : VK), Inv X pins σ H s → RelV x v → r x H Q →
    wpAny (model X.prog X.w) X.A (f v) (EP X pins σ Q) X.xe s
/-- a call of a value that is known (a builtin, a type) with values -/
def CallR (X : Cx) (f : Value) (r : List V → Hp → VK → Prop) : Prop :=
  ∀ (pins : List (Addr × Obj)) (s : Shared) (σ : St) (H : Hp) (xs : List V) (us : List Value) (Q : VK), Inv X pins σ H s → Vals xs us → r xs H Q →
    wpAny (model X.prog X.w) X.A (call f us) (EP X pins σ Q) X.xe s
/-- a value's truth -/
def TruR (X : Cx) (r : V → Hp → (Bool → Hp → Prop) → Prop) : Prop :=
  ∀ (pins : List (Addr × Obj)) (s : Shared) (σ : St) (H : Hp) (x : V) (v : Value) (Q : Bool → Hp → Prop), Inv X pins σ H s → RelV x v → r x H Q →
    wpAny (model X.prog X.w) X.A (truthy v) (TP X pins σ Q) X.xe s

def tOp (r : R2) (ta tb : TE) : TE := fun σ H Q => ta σ H fun x H1 => tb σ H1 fun y H2 => r x y H2 Q
def tUn (r : V → Hp → VK → Prop) (ta : TE) : TE := fun σ H Q => ta σ H fun x H1 => r x H1 Q
/-- ints in, under C, and a value out -/
def rI (C : Int → Int → Prop) (g : Int → Int → V) : R2 := fun x y H Q => ∃ i j, x = .int i ∧ y = .int j ∧ C i j ∧ Q (g i j) H
def rI0 (g : Int → Int → V) : R2 := fun x y H Q => ∃ i j, x = .int i ∧ y = .int j ∧ Q (g i j) H
def rU (g : Int → V) : V → Hp → VK → Prop := fun x H Q => ∃ i, x = .int i ∧ Q (g i) H

section
variable {X : Cx} {a b c : Expr} {ta tb tc : TE} {pos : Pos}

theorem binT (ha : PE X a ta) (hb : PE X b tb) {pins : List (Addr × Obj)} {s : Shared} {σ : St} {H : Hp} {R : V → V → Hp → Prop} (I : Inv X pins σ H s)
    (h : ta σ H fun x H1 => tb σ H1 fun y H2 => R x y H2) {Q : Value → Shared → Prop} {f : Value → Value → Sem Value}
    (hf : ∀ v u s2 x y H2, Inv X pins σ H2 s2 → RelV x v → RelV y u → R x y H2 → wpAny (model X.prog X.w) X.A (f v u) Q X.xe s2) :
    wpAny (model X.prog X.w) X.A (eval a X.env) (fun v s₁ => wpAny (model X.prog X.w) X.A (eval b X.env) (fun u s₂ => wpAny (model X.prog X.w) X.A (f v u) Q X.xe s₂) X.xe s₁) X.xe s := by
  refine thn (ha pins s σ H _ I h) fun v s1 ⟨x, H1, I1, r1, q1⟩ => ?_
  refine thn (hb pins s1 σ H1 _ I1 q1) fun u s2 ⟨y, H2, I2, r2, q2⟩ => ?_
  exact hf v u s2 x y H2 I2 r1 r2 q2

theorem pe_op {op : Operator} {r : R2} (ho : OpR X (binaryOp op) r) (ha : PE X a ta) (hb : PE X b tb) : PE X (.BinOp a op b pos) (tOp r ta tb) := by
  intro pins s σ H Q I h
  exact wpAny_BinOp (binT ha hb I h fun v u s2 x y H2 I2 rx ry q => ho pins s2 σ H2 x y v u Q I2 rx ry q)
theorem pe_un {op : UnaryOp} {r : V → Hp → VK → Prop} (ho : UnR X (unaryOp op) r) (ha : PE X a ta) : PE X (.UnaryOp op a pos) (tUn r ta) := by
  intro pins s σ H Q I h
  exact UnaryOp_ (thn (ha pins s σ H _ I h) fun v s1 ⟨x, H1, I1, r1, q1⟩ => ho pins s1 σ H1 x v Q I1 r1 q1)
/-! ### ints -/
theorem opI {f : Value → Value → Sem Value} {C : Int → Int → Prop} {g : Int → Int → Int}
    (rule : ∀ (i j : Int) (t u : Tok) (s : Shared) (Q : Value → Shared → Prop) (E : Value → Shared → Prop), C i j → Q (.int (g i j) s.toks) { s with toks := s.toks + 1 } → wpAny (model X.prog X.w) X.A (f (.int i t) (.int j u)) Q E s) :
    OpR X f (rI C fun i j => .int (g i j)) := by
  intro pins s σ H x y v u Q I rx ry h
  obtain ⟨i, j, rfl, rfl, hc, q⟩ := h
  obtain ⟨t, rfl⟩ := rx
  obtain ⟨t', rfl⟩ := ry
  exact rule i j t t' s _ _ hc ⟨.int (g i j), H, I.tok _, ⟨_, rfl⟩, q⟩
theorem opI0 {f : Value → Value → Sem Value} {g : Int → Int → Int}
    (rule : ∀ (i j : Int) (t u : Tok) (s : Shared) (Q : Value → Shared → Prop) (E : Value → Shared → Prop), Q (.int (g i j) s.toks) { s with toks := s.toks + 1 } → wpAny (model X.prog X.w) X.A (f (.int i t) (.int j u)) Q E s) :
    OpR X f (rI0 fun i j => .int (g i j)) := by
  intro pins s σ H x y v u Q I rx ry h
  obtain ⟨i, j, rfl, rfl, q⟩ := h
  obtain ⟨t, rfl⟩ := rx
  obtain ⟨t', rfl⟩ := ry
  exact rule i j t t' s _ _ ⟨.int (g i j), H, I.tok _, ⟨_, rfl⟩, q⟩
theorem opB0 {f : Value → Value → Sem Value} {g : Int → Int → Bool}
    (rule : ∀ (i j : Int) (t u : Tok) (s : Shared) (Q : Value → Shared → Prop) (E : Value → Shared → Prop), Q (.bool (g i j)) s → wpAny (model X.prog X.w) X.A (f (.int i t) (.int j u)) Q E s) :
    OpR X f (rI0 fun i j => .bl (g i j)) := by
  intro pins s σ H x y v u Q I rx ry h
  obtain ⟨i, j, rfl, rfl, q⟩ := h
  obtain ⟨t, rfl⟩ := rx
  obtain ⟨t', rfl⟩ := ry
  exact rule i j t t' s _ _ ⟨.bl (g i j), H, I, rfl, q⟩

def CDiv (i j : Int) : Prop := 0 < j ∧ j < 1073741824
def CDivN (i j : Int) : Prop := j ≠ 0 ∧ j.natAbs < 1073741824
def CPow (i j : Int) : Prop := 0 ≤ j ∧ j ≤ 1000000 ∧ i.natAbs < 2 ^ 64
def CMul (i j : Int) : Prop := (-(2 ^ 64) < i ∧ i < 2 ^ 64) ∨ (-(2 ^ 64) < j ∧ j < 2 ^ 64)
theorem CMul.ok {i j : Int} (h : CMul i j) : IntMulOk i j := by
  rcases h with ⟨h1, h2⟩ | ⟨h1, h2⟩
  · exact .of_left (intBits_le_64 h1 h2)
  · exact .of_right (intBits_le_64 h1 h2)
theorem op_add : OpR X (binaryOp .Add) (rI0 fun i j => .int (i + j)) := opI0 fun _ _ _ _ _ _ _ q => add_int q
theorem op_sub : OpR X (binaryOp .Sub) (rI0 fun i j => .int (i - j)) := opI0 fun _ _ _ _ _ _ _ q => sub_int q
/-- % by a positive divisor of any size -/
theorem op_mod : OpR X (binaryOp .Mod) (rI (fun _ j => 0 < j) fun i j => .int (i % j)) := opI fun i j _ _ _ _ _ hc q => by
  have h1 : (0 : Int) < j := hc
  exact mod_int' (by omega) (by rw [Int.fmod_eq_emod_of_nonneg i (by omega)]; exact q)
theorem op_pow : OpR X (binaryOp .Pow) (rI CPow fun i j => .int (i ^ j.toNat)) := opI fun _ _ _ _ _ _ _ hc q => pow_int_small hc.1 hc.2.1 hc.2.2 q
theorem unI {f : Value → Sem Value} {g : Int → Int}
    (rule : ∀ (i : Int) (t : Tok) (s : Shared) (Q : Value → Shared → Prop) (E : Value → Shared → Prop), Q (.int (g i) s.toks) { s with toks := s.toks + 1 } → wpAny (model X.prog X.w) X.A (f (.int i t)) Q E s) :
    UnR X f (rU fun i => .int (g i)) := by
  intro pins s σ H x v Q I rx h
  obtain ⟨i, rfl, q⟩ := h
  obtain ⟨t, rfl⟩ := rx
  exact rule i t s _ _ ⟨.int (g i), H, I.tok _, ⟨_, rfl⟩, q⟩
theorem un_neg : UnR X (unaryOp .USub) (rU fun i => .int (-i)) := unI fun _ _ _ _ _ q => neg_int q
/-! ### bools among ints: n += (a < b) -/
end

/-! ### comparisons -/
/-- the scalars that == tells apart as data does -/
def scal : V → V → Bool
  | .non, .non => true | .non, .int _ => true | .int _, .non => true | .non, .bl _ => true | .bl _, .non => true | .non, .str _ => true | .str _, .non => true
  | .int _, .int _ => true | .bl _, .bl _ => true | .str _, .str _ => true | .byt _, .byt _ => true
  | .int _, .str _ => true | .str _, .int _ => true | .bl _, .str _ => true | .str _, .bl _ => true
  | _, _ => false
def rEq : R2 := fun x y H Q => scal x y = true ∧ Q (.bl (decide (x = y))) H
def rNe : R2 := fun x y H Q => scal x y = true ∧ Q (.bl (!decide (x = y))) H

theorem dec_int {i j : Int} : decide (V.int i = V.int j) = (i == j) := by
  rw [Bool.eq_iff_iff]
  simp
theorem dec_bl {i j : Bool} : decide (V.bl i = V.bl j) = (i == j) := by
  rw [Bool.eq_iff_iff]
  simp
theorem dec_str {i j : Str} : decide (V.str i = V.str j) = (i == j) := by
  rw [Bool.eq_iff_iff]
  simp
theorem dec_byt {i j : Array UInt8} : decide (V.byt i = V.byt j) = (i.toList == j.toList) := by
  rw [Bool.eq_iff_iff]
  cases i
  cases j
  simp

section
variable {X : Cx} {a b c : Expr} {ta tb tc : TE} {pos : Pos}
theorem fin_bl {pins : List (Addr × Obj)} {σ : St} {H : Hp} {s : Shared} {Q : VK} {k k' : Bool} (I : Inv X pins σ H s) (q : Q (.bl k) H) (e : k = k') : EP X pins σ Q (.bool k') s := by
  subst e
  exact ⟨.bl k, H, I, rfl, q⟩
theorem op_eq : OpR X (compareOp .Eq) rEq := by
  intro pins s σ H x y v u Q I rx ry h
  obtain ⟨hs, q⟩ := h
  cases x with
  | non =>
    cases rx
    cases y with
    | non => cases ry; exact PySem.EqNone.eq_none_none (fin_bl I q (by simp))
    | bl j => cases ry; exact PySem.EqNone.eq_none_bool (fin_bl I q (by simp))
    | int j => obtain ⟨t', rfl⟩ := ry; exact PySem.EqNone.eq_none_int (fin_bl I q (by simp))
    | str j => obtain ⟨t', rfl⟩ := ry; exact PySem.EqNone.eq_none_str (fin_bl I q (by simp))
    | _ => exact absurd (show false = true from hs) Bool.false_ne_true
  | bl i =>
    cases rx
    cases y with
    | non => cases ry; exact PySem.EqNone.eq_bool_none (fin_bl I q (by simp))
    | bl j => cases ry; exact eq_bool (fin_bl I q dec_bl)
    | str j => obtain ⟨t', rfl⟩ := ry; exact PySem.EqMixed.eq_bool_str (fin_bl I q (by simp))
    | _ => exact absurd (show false = true from hs) Bool.false_ne_true
  | int i =>
    obtain ⟨t, rfl⟩ := rx
    cases y with
    | non => cases ry; exact PySem.EqNone.eq_int_none (fin_bl I q (by simp))
    | int j => obtain ⟨t', rfl⟩ := ry; exact eq_int (fin_bl I q dec_int)
    | str j => obtain ⟨t', rfl⟩ := ry; exact PySem.EqMixed.eq_int_str (fin_bl I q (by simp))
    | _ => exact absurd (show false = true from hs) Bool.false_ne_true
  | str i =>
    obtain ⟨t, rfl⟩ := rx
    cases y with
    | non => cases ry; exact PySem.EqNone.eq_str_none (fin_bl I q (by simp))
    | bl j => cases ry; exact PySem.EqMixed.eq_str_bool (fin_bl I q (by simp))
    | int j => obtain ⟨t', rfl⟩ := ry; exact PySem.EqMixed.eq_str_int (fin_bl I q (by simp))
    | str j => obtain ⟨t', rfl⟩ := ry; exact eq_str (fin_bl I q dec_str)
    | _ => exact absurd (show false = true from hs) Bool.false_ne_true
  | byt i =>
    obtain ⟨t, rfl⟩ := rx
    cases y with
    | byt j => obtain ⟨t', rfl⟩ := ry; exact PySem.W.eq_bytes (fin_bl I q dec_byt)
    | _ => exact absurd (show false = true from hs) Bool.false_ne_true
  | _ => cases y <;> exact absurd (show false = true from hs) Bool.false_ne_true
theorem op_ne : OpR X (compareOp .NotEq) rNe := by
  intro pins s σ H x y v u Q I rx ry h
  obtain ⟨hs, q⟩ := h
  cases x with
  | non =>
    cases rx
    cases y with
    | non => cases ry; exact PySem.EqNone.ne_none_none (fin_bl I q (by simp))
    | bl j => cases ry; exact PySem.EqNone.ne_none_bool (fin_bl I q (by simp))
    | int j => obtain ⟨t', rfl⟩ := ry; exact PySem.EqNone.ne_none_int (fin_bl I q (by simp))
    | str j => obtain ⟨t', rfl⟩ := ry; exact PySem.EqNone.ne_none_str (fin_bl I q (by simp))
    | _ => exact absurd (show false = true from hs) Bool.false_ne_true
  | bl i =>
    cases rx
    cases y with
    | non => cases ry; exact PySem.EqNone.ne_bool_none (fin_bl I q (by simp))
    | bl j => cases ry; exact ne_bool (fin_bl I q (congrArg not dec_bl))
    | str j => obtain ⟨t', rfl⟩ := ry; exact PySem.EqMixed.ne_bool_str (fin_bl I q (by simp))
    | _ => exact absurd (show false = true from hs) Bool.false_ne_true
  | int i =>
    obtain ⟨t, rfl⟩ := rx
    cases y with
    | non => cases ry; exact PySem.EqNone.ne_int_none (fin_bl I q (by simp))
    | int j => obtain ⟨t', rfl⟩ := ry; exact ne_int (fin_bl I q (congrArg not dec_int))
    | str j => obtain ⟨t', rfl⟩ := ry; exact PySem.EqMixed.ne_int_str (fin_bl I q (by simp))
    | _ => exact absurd (show false = true from hs) Bool.false_ne_true
  | str i =>
    obtain ⟨t, rfl⟩ := rx
    cases y with
    | non => cases ry; exact PySem.EqNone.ne_str_none (fin_bl I q (by simp))
    | bl j => cases ry; exact PySem.EqMixed.ne_str_bool (fin_bl I q (by simp))
    | int j => obtain ⟨t', rfl⟩ := ry; exact PySem.EqMixed.ne_str_int (fin_bl I q (by simp))
    | str j => obtain ⟨t', rfl⟩ := ry; exact ne_str (fin_bl I q (congrArg not dec_str))
    | _ => exact absurd (show false = true from hs) Bool.false_ne_true
  | byt i =>
    obtain ⟨t, rfl⟩ := rx
    cases y with
    | byt j => obtain ⟨t', rfl⟩ := ry; exact PySem.W.ne_bytes (fin_bl I q (congrArg not dec_byt))
    | _ => exact absurd (show false = true from hs) Bool.false_ne_true
  | _ => cases y <;> exact absurd (show false = true from hs) Bool.false_ne_true

theorem op_lt : OpR X (compareOp .Lt) (rI0 fun i j => .bl (decide (i < j))) := opB0 fun _ _ _ _ _ _ _ q => lt_int q
theorem op_le : OpR X (compareOp .LtE) (rI0 fun i j => .bl (decide (i ≤ j))) := opB0 fun _ _ _ _ _ _ _ q => le_int q
theorem op_gt : OpR X (compareOp .Gt) (rI0 fun i j => .bl (decide (j < i))) := opB0 fun _ _ _ _ _ _ _ q => gt_int q
theorem op_ge : OpR X (compareOp .GtE) (rI0 fun i j => .bl (decide (j ≤ i))) := opB0 fun _ _ _ _ _ _ _ q => ge_int q
/-- is None, is not None: the right side a value none -/
theorem op_isN : OpR X (compareOp .Is) (fun x y H Q => y = .non ∧ Q (.bl (decide (x = .non))) H) := by
  intro pins s σ H x y v u Q I rx ry h
  obtain ⟨rfl, q⟩ := h
  cases ry
  refine is_none_gen (fin_bl I q ?_)
  cases x <;> first
    | (cases rx; rfl)
    | (obtain ⟨t, rfl⟩ := rx; rfl)
theorem op_notN : OpR X (compareOp .IsNot) (fun x y H Q => y = .non ∧ Q (.bl (!decide (x = .non))) H) := by
  intro pins s σ H x y v u Q I rx ry h
  obtain ⟨rfl, q⟩ := h
  cases ry
  refine isnot_none_gen (fin_bl I q ?_)
  cases x <;> first
    | (cases rx; rfl)
    | (obtain ⟨t, rfl⟩ := rx; rfl)

/-- is, is not of two objects that are tracked lists or instances -/
def isObj : HO → Bool
  | .lst _ => true
  | .ins _ _ _ => true
  | _ => false
theorem nomark (b : Expr) {op : CmpOp} (h : op ≠ .In := by decide) (h2 : op ≠ .NotIn := by decide) : behindInMarks op b = false := by
  have e1 : (op == CmpOp.In) = false := by cases op <;> first | rfl | exact absurd rfl h
  have e2 : (op == CmpOp.NotIn) = false := by cases op <;> first | rfl | exact absurd rfl h2
  cases b <;> simp [behindInMarks, e1, e2]
/-- a comparison as a value; hm: nomark b, or (for in, not in) by with_unfolding_all rfl -/
theorem pe_cmpR {op : CmpOp} {r : R2} (ho : OpR X (compareOp op) r) (ha : PE X a ta) (hb : PE X b tb) (hm : behindInMarks op b = false) : PE X (.Compare a [op] [b] pos) (tOp r ta tb) := by
  intro pins s σ H Q I h
  exact wpAny_Compare1 (binT ha hb I h fun v u s2 x y H2 I2 rx ry q => ho pins s2 σ H2 x y v u Q I2 rx ry q) hm
/-- a reading of a value as a test -/
def tTest (t : TE) : TT := fun σ H Q => t σ H fun x H' => ∃ k, x = .bl k ∧ Q k H'
theorem pt_cmpR {op : CmpOp} {r : R2} (ho : OpR X (compareOp op) r) (ha : PE X a ta) (hb : PE X b tb) (hm : behindInMarks op b = false) : PT X (.Compare a [op] [b] pos) (tTest (tOp r ta tb)) := by
  intro pins s σ H Q I h
  refine wpAny_isTrue_Compare1 (thn (ha pins s σ H _ I h) fun v s1 ⟨x, H1, I1, r1, q1⟩ => thn (hb pins s1 σ H1 _ I1 q1) fun u s2 ⟨y, H2, I2, r2, q2⟩ =>
    thn (ho pins s2 σ H2 x y v u _ I2 r1 r2 q2) fun c s3 ⟨z, H3, I3, r3, k, e, q3⟩ => ?_) hm
  subst e
  cases r3
  exact wpAny_truthy_bool ⟨H3, I3, q3⟩
/-- a op1 b op2 c -/
def tChain (r r' : R2) (ta tb tc : TE) : TE := fun σ H Q => ta σ H fun x H1 => tb σ H1 fun y H2 => r x y H2 fun z H3 => ∃ k, z = .bl k ∧
  (if k = true then tc σ H3 fun w' H4 => r' y w' H4 Q else Q (.bl false) H3)
theorem pe_chain {op op' : CmpOp} {r r' : R2} (ho : OpR X (compareOp op) r) (ho' : OpR X (compareOp op') r') (ha : PE X a ta) (hb : PE X b tb) (hc : PE X c tc)
    (hm : lastMarks [op, op'] [b, c] = false := by with_unfolding_all rfl) : PE X (.Compare a [op, op'] [b, c] pos) (tChain r r' ta tb tc) := by
  intro pins s σ H Q I h
  refine Compare_chain (thn (ha pins s σ H _ I h) fun v s1 ⟨x, H1, I1, r1, q1⟩ => chain_link (thn (hb pins s1 σ H1 _ I1 q1) fun u s2 ⟨y, H2, I2, r2, q2⟩ =>
    thn (ho pins s2 σ H2 x y v u _ I2 r1 r2 q2) fun d s3 ⟨z, H3, I3, r3, k, e, q3⟩ => ?_)) hm
  subst e
  cases r3
  refine wpAny_truthy_bool ?_
  cases k with
  | false => exact ite_ff ⟨.bl false, H3, I3, rfl, q3⟩
  | true => exact ite_tt (chain_last (thn (hc pins s3 σ H3 _ I3 q3) fun w' s4 ⟨z', H4, I4, r4, q4⟩ => ho' pins s4 σ H4 y z' u w' Q I4 r2 r4 q4))
theorem pt_chain {op op' : CmpOp} {r r' : R2} (ho : OpR X (compareOp op) r) (ho' : OpR X (compareOp op') r') (ha : PE X a ta) (hb : PE X b tb) (hc : PE X c tc)
    (hm : lastMarks [op, op'] [b, c] = false := by with_unfolding_all rfl) : PT X (.Compare a [op, op'] [b, c] pos) (tTest (tChain r r' ta tb tc)) := by
  intro pins s σ H Q I h
  refine isTrue_chain (thn (ha pins s σ H _ I h) fun v s1 ⟨x, H1, I1, r1, q1⟩ => test_link (thn (hb pins s1 σ H1 _ I1 q1) fun u s2 ⟨y, H2, I2, r2, q2⟩ =>
    thn (ho pins s2 σ H2 x y v u _ I2 r1 r2 q2) fun d s3 ⟨z, H3, I3, r3, k, e, q3⟩ => ?_)) hm
  subst e
  cases r3
  refine wpAny_truthy_bool ?_
  cases k with
  | false =>
    obtain ⟨k', e', q'⟩ := q3
    cases e'
    exact ite_ff ⟨H3, I3, q'⟩
  | true =>
    refine ite_tt (test_last (thn (hc pins s3 σ H3 _ I3 q3) fun w' s4 ⟨z', H4, I4, r4, q4⟩ => thn (ho' pins s4 σ H4 y z' u w' _ I4 r2 r4 q4) fun d' s5 ⟨z2, H5, I5, r5, k2, e2, q5⟩ => ?_))
    subst e2
    cases r5
    exact wpAny_truthy_bool ⟨H5, I5, q5⟩

/-! ### truth -/
/-- a value's truth by the abstract heap -/
def TruV (K : PySem.W.Frag) (x : V) (H : Hp) (k : Bool) : Prop :=
  match x with
  | .non => k = false
  | .bl b => k = b
  | .int i => k = (i != 0)
  | .str y => y.length ≤ sizeLine ∧ k = ((y.length : Int) != 0)
  | .byt y => y.size ≤ sizeLine ∧ k = ((y.size : Int) != 0)
  | .ref p => (∃ xs, SqL K H p xs ∧ k = !xs.isEmpty) ∨ (∃ xs, SqT K H p xs ∧ k = !xs.isEmpty) ∨ ∃ kvs, H p = some (.dK kvs) ∧ k = !kvs.isEmpty
  | _ => False
theorem line63 : (sizeLine : Nat) < 2 ^ 63 := by rw [sizeLine_eq]; decide
/-! ### strs and bytes -/
def PlainIxT (b : Expr) : Prop := ∀ o i, subscripted b false o i = operate [o, i] (getItem o i)
/-! ### scalar builtins, by CallR -/
theorem vals1 {x : V} {us : List Value} (r : Vals [x] us) : ∃ u, us = [u] ∧ RelV x u := by
  cases r with
  | cons r1 r2 => cases r2; exact ⟨_, rfl, r1⟩
theorem vals2 {x y : V} {us : List Value} (r : Vals [x, y] us) : ∃ u w', us = [u, w'] ∧ RelV x u ∧ RelV y w' := by
  cases r with
  | cons r1 r2 =>
    cases r2 with
    | cons r3 r4 => cases r4; exact ⟨_, _, rfl, r1, r3⟩
theorem call_min2 (hc : X.calm = true) : CallR X (.builtin "min") (fun xs H Q => ∃ i j, xs = [.int i, .int j] ∧ Q (.int (if j < i then j else i)) H) := by
  intro pins s σ H xs us Q I r h
  obtain ⟨i, j, rfl, q⟩ := h
  obtain ⟨u, w', rfl, ⟨t, rfl⟩, ⟨t', rfl⟩⟩ := vals2 r
  refine min_two_ints (I.ok.hd hc) fun h' tk k => ⟨_, H, I.kept k, ?_, q⟩
  by_cases hj : j < i
  · rw [if_pos hj, if_pos hj]; exact ⟨_, rfl⟩
  · rw [if_neg hj, if_neg hj]; exact ⟨_, rfl⟩
/-- len of a str, a bytes, a list, a tuple -/
def LenV (K : PySem.W.Frag) (x : V) (H : Hp) (n : Nat) : Prop :=
  match x with
  | .str y => y.length ≤ sizeLine ∧ n = y.length
  | .byt y => y.size ≤ sizeLine ∧ n = y.size
  | .ref p => (∃ xs, SqL K H p xs ∧ n = xs.length) ∨ ∃ xs, SqT K H p xs ∧ n = xs.length
  | _ => False
end
end L2

namespace L2
open PySem PySem.Spec PyProof.Rows

/-! ### an instance, its attributes a map -/
structure ObjM (h : Heap) (x dx C : Addr) (mA : Str → Option Value) : Prop where
  obj : h.get? x = some (PySem.W.instObj C dx)
  ns : h.Ns1 dx mA
  ne : dx ≠ x

theorem lookIn_ns {h : Heap} {dx : Addr} {mA : Str → Option Value} (n : h.Ns1 dx mA) : ∃ od, h.get? dx = some od ∧ ∀ name, PySem.W.lookIn name od = some (mA name) := by
  obtain ⟨o, es, ep, ho, hd, hk, _, hm⟩ := n
  refine ⟨o, ho, fun name => ?_⟩
  have e := hm name
  unfold nsFind findBy at e
  rw [← Array.find?_toList] at e
  unfold PySem.W.lookIn
  rw [hd]
  dsimp only
  split
  · rename_i y q
    rw [q] at e
    exact congrArg some e
  · rename_i q
    rw [q] at e
    have a : es.toList.any (·.refKey) = false := by
      rw [List.any_eq_false]
      intro y hy
      obtain ⟨z, t, hkey⟩ := hk y (Array.mem_toList_iff.mp hy)
      simp [DictEntry.refKey, hkey]
    have a' : ¬ es.toList.any (·.refKey) = true := by rw [a]; exact Bool.false_ne_true
    rw [if_neg a']
    exact congrArg some e

theorem ObjM.look {h : Heap} {x dx C : Addr} {mA : Str → Option Value} (I : ObjM h x dx C mA) : ∃ od, PySem.W.InstAt h x (PySem.W.instObj C dx) C (some od) ∧ ∀ name, PySem.W.lookIn name od = some (mA name) :=
  let ⟨od, ho, hl⟩ := lookIn_ns I.ns
  ⟨od, ⟨I.obj, rfl, rfl, ho⟩, hl⟩

section
variable {prog : Program} {w : World} {A : Around} {E : Value → Shared → Prop} {s : Shared} {K : PySem.W.Frag} {x dx C f : Addr} {mA : Str → Option Value} {name : Str} {v : Value}

end

/-! ### the attributes as a list of pairs -/
def putF (f : Str) (v : V) : List (Str × V) → List (Str × V)
  | [] => [(f, v)]
  | (g, x) :: r => if g = f then (g, v) :: r else (g, x) :: putF f v r
theorem RelO.some_of {v : V} {o : Option Value} (r : RelO (some v) o) : ∃ u, o = some u ∧ RelV v u := by
  cases o with
  | none => exact (show False from r).elim
  | some u => exact ⟨u, rfl, r⟩
section
variable {P : Program} {w : World} {H H' : Hp} {h h' : Heap} {a C dx : Addr} {fs fs' : List (Str × V)}
theorem ins_get (hok : HOk P w H h) (e : H a = some (.ins C dx fs)) : ∃ mA, ObjM h a dx C mA ∧ (∀ f, RelO (fs.lookup f) (mA f)) ∧ PySem.Within mA (fs.map (·.1)) ∧ fs.length ≤ 1000 ∧ H dx = some (.own a) := by
  obtain ⟨d, z, ne, ob, mA, n, r, q⟩ := (show ObjOk P w H h a (.ins C dx fs) from hok a _ e)
  exact ⟨mA, ⟨ob, n, ne⟩, r, q, z, d⟩
end

/-! ### what of the text a class must have -/
structure Cls (K : PySem.W.Frag) (C : Addr) : Prop where
  pg : PySem.W.plainGet K C Str.empty = true
  hd : PySem.W.hasDictIn K C = true
  po : PySem.W.plainOver K C = true
  sa : PySem.W.findIn K (.ref C) "__setattr__" = some (some (.builtin "object.__setattr__"))
theorem Cls.get {K : PySem.W.Frag} {C : Addr} (c : Cls K C) (f : Str) : PySem.W.plainGet K C f = true := c.pg
/-- no class of it has the name -/
def NoAttr (K : PySem.W.Frag) (C : Addr) (f : Str) : Prop := PySem.W.findIn K (.ref C) f = some none
/-- a constant of the class -/
structure Con (K : PySem.W.Frag) (C : Addr) (f : Str) (v : V) (u : Value) : Prop where
  at_ : PySem.W.findIn K (.ref C) f = some (some u)
  rel : RelV v u
  get : PySem.W.specialIn K u "__get__" = some none
  cp : PySem.W.copiedNames.contains f = false
/-- a method: a plain def of the class or of one above it -/
structure Meth (K : PySem.W.Frag) (C : Addr) (m : Str) (f : Addr) : Prop where
  at_ : PySem.W.findIn K (.ref C) m = some (some (.ref f))
  fn : PySem.W.isFn K (.ref f) = true
  kp : PySem.W.keepIn K (.ref f) = true

section
variable {X : Cx} {pins : List (Addr × Obj)} {σ : St} {H : Hp} {s : Shared} {a C dx : Addr} {fs : List (Str × V)} {f : Str} {v : V} {A : Around} {E : Value → Shared → Prop}

end

/-! ### readings and rules -/
/-- e.f, an attribute of the instance -/
def tFld (K : PySem.W.Frag) (ta : TE) (f : Str) : TE := fun σ H Q => ta σ H fun x H1 => ∃ a C dx fs v, x = .ref a ∧ H1 a = some (.ins C dx fs) ∧ Cls K C ∧ NoAttr K C f ∧ fs.lookup f = some v ∧ Q v H1
/-- e.f, a constant of the class -/
def tCon (K : PySem.W.Frag) (ta : TE) (f : Str) : TE := fun σ H Q => ta σ H fun x H1 => ∃ a C dx fs v u, x = .ref a ∧ H1 a = some (.ins C dx fs) ∧ Cls K C ∧ Con K C f v u ∧ fs.lookup f = none ∧ Q v H1
/-- e.f = value -/
def sFld (K : PySem.W.Frag) (ta tv : TE) (f : Str) : TS := fun D σ H => tv σ H fun y H1 => ta σ H1 fun x H2 => ∃ a C dx fs, x = .ref a ∧ H2 a = some (.ins C dx fs) ∧ Cls K C ∧ NoAttr K C f ∧ fs.length < 1000 ∧
  D.nx σ (upd H2 a (.ins C dx (putF f y fs)))
/-- an augmented operator on two values -/
def InOp (X : Cx) (op : Operator) (rd : V → V → Hp → VK → Prop) : Prop :=
  ∀ (pins : List (Addr × Obj)) (s : Shared) (σ : St) (H : Hp) (x y : V) (u v : Value) (Q : VK), Inv X pins σ H s → RelV x u → RelV y v → rd x y H Q → wpAny (model X.prog X.w) X.A (inplaceOp op u v) (EP X pins σ Q) X.xe s
/-- e.f op= value -/
def sFldAug (K : PySem.W.Frag) (ta tv : TE) (rd : V → V → Hp → VK → Prop) (f : Str) : TS := fun D σ H => ta σ H fun x H1 => ∃ a C dx fs v, x = .ref a ∧ H1 a = some (.ins C dx fs) ∧ Cls K C ∧ NoAttr K C f ∧ fs.lookup f = some v ∧
  tv σ H1 fun y H2 => rd v y H2 fun z H3 => ∃ dx' fs', H3 a = some (.ins C dx' fs') ∧ fs'.length < 1000 ∧ D.nx σ (upd H3 a (.ins C dx' (putF f z fs')))

section
variable {X : Cx} {o e value : Expr} {f : Str} {pos pos' tpos : Pos} {ta tv : TE}
def rAdd : V → V → Hp → VK → Prop := fun x y H Q => ∃ i j, x = .int i ∧ y = .int j ∧ Q (.int (i + j)) H
def rSub : V → V → Hp → VK → Prop := fun x y H Q => ∃ i j, x = .int i ∧ y = .int j ∧ Q (.int (i - j)) H
end

/-! ### isinstance -/
section
variable {X : Cx} {pins : List (Addr × Obj)} {σ : St} {H : Hp} {s : Shared} {A : Around} {E : Value → Shared → Prop} {Q : Value → Shared → Prop} {c : Value} {b : Bool}
/-- the type of a value, as the fragment's deciders take it; for an instance its class -/
inductive TyOf (K : PySem.W.Frag) (H : Hp) : V → Value → Prop where
  | non : TyOf K H .non (.type "NoneType")
  | bl (x : Bool) : TyOf K H (.bl x) (.type "bool")
  | int (i : Int) : TyOf K H (.int i) (.type "int")
  | str (x : Str) : TyOf K H (.str x) (.type "str")
  | flt (x : UInt64) : TyOf K H (.flt x) (.type "float")
  | lst {a : Addr} {xs : List V} (e : H a = some (.lst xs)) : TyOf K H (.ref a) (.type "list")
  | frz {a : Addr} {o : Obj} {xs : List V} (e : H a = some (.frz o (.lst xs))) : TyOf K H (.ref a) (.type "list")
  | tup {a : Addr} {xs : List V} (e : H a = some (.tup xs)) : TyOf K H (.ref a) (.type "tuple")
  | dK {a : Addr} {kvs : List (Key × V)} (e : H a = some (.dK kvs)) : TyOf K H (.ref a) (.type "dict")
  | dT {a : Addr} {kvs : List (List Key × V)} (e : H a = some (.dT kvs)) : TyOf K H (.ref a) (.type "dict")
  | ins {a C dx : Addr} {fs : List (Str × V)} (e : H a = some (.ins C dx fs)) (cl : Cls K C) (ha : PySem.W.findIn K (.ref C) "__class__" = some (some (.builtin "object.__class__")))
      (hn : PySem.W.specialIn K (.builtin "object.__class__") "__get__" = some (some (.builtin "getset_descriptor.__get__"))) (htk : PySem.W.takesIn K (.builtin "object.__class__") = some true)
      (hm : PySem.W.mroIn K C (.type "object") = some true) : TyOf K H (.ref a) (.ref C)
/-- isinstance(x, c) for one class c, a built-in or an own one: kitOne's answer -/
theorem isinst_ok {x : V} {u t : Value} (I : Inv X pins σ H s) (rx : RelV x u) (ty : TyOf X.K H x t) (e : PySem.W.kitOne X.K t c = some b) (h : ∀ tk, Q (.bool b) { s with toks := tk }) :
    wpAny (model X.prog X.w) A (call (.builtin "isinstance") [u, c]) Q E s := by
  cases ty with
  | non => cases (show u = Value.none from rx); exact PySem.W.kia_one PySem.W.kitx_none I.kIn True.intro e (fun z => nomatch z) h
  | bl y => cases (show u = Value.bool y from rx); exact PySem.W.kia_one PySem.W.kitx_bool I.kIn True.intro e (fun z => nomatch z) h
  | int i => obtain ⟨t, q⟩ := (show ∃ t, u = Value.int i t from rx); cases q; exact PySem.W.kia_one PySem.W.kitx_int I.kIn True.intro e (fun z => nomatch z) h
  | str y => obtain ⟨t, q⟩ := (show ∃ t, u = Value.str y t from rx); cases q; exact PySem.W.kia_one PySem.W.kitx_str I.kIn True.intro e (fun z => nomatch z) h
  | flt y => obtain ⟨t, q⟩ := (show ∃ t, u = Value.float y t from rx); cases q; exact PySem.W.kia_one PySem.W.kitx_float I.kIn True.intro e (fun z => nomatch z) h
  | @lst a xs ea =>
    cases (show u = Value.ref a from rx)
    obtain ⟨_, _, n, _, h1⟩ := (show ObjOk X.prog X.w H s.heap a (.lst xs) from I.hok a _ ea)
    exact PySem.W.kia_one PySem.W.kitx_list I.kIn ⟨_, h1, rfl⟩ e (fun z => nomatch z) h
  | @frz a ob xs ea =>
    cases (show u = Value.ref a from rx)
    obtain ⟨_, _, _, n, _, h1⟩ := (show ObjOk X.prog X.w H s.heap a (.frz ob (.lst xs)) from I.hok a _ ea)
    exact PySem.W.kia_one PySem.W.kitx_list I.kIn ⟨_, h1, rfl⟩ e (fun z => nomatch z) h
  | @tup a xs ea =>
    cases (show u = Value.ref a from rx)
    obtain ⟨_, _, _, p⟩ := (show ObjOk X.prog X.w H s.heap a (.tup xs) from I.hok a _ ea)
    obtain ⟨o, h1, h2, _⟩ := p
    exact PySem.W.kia_one PySem.W.kitx_tuple I.kIn ⟨o, h1, h2⟩ e (fun z => nomatch z) h
  | @dK a kvs ea =>
    cases (show u = Value.ref a from rx)
    obtain ⟨_, _, vs, _, p⟩ := (show ObjOk X.prog X.w H s.heap a (.dK kvs) from I.hok a _ ea)
    obtain ⟨o, es, ep, h1, h2, _⟩ := p
    exact PySem.W.kia_one PySem.W.kitx_dict I.kIn ⟨o, h1, h2.1⟩ e (fun z => nomatch z) h
  | @dT a kvs ea =>
    cases (show u = Value.ref a from rx)
    obtain ⟨_, _, xs, _, o, es, ep, h1, h2, _⟩ := (show ObjOk X.prog X.w H s.heap a (.dT kvs) from I.hok a _ ea)
    exact PySem.W.kia_one PySem.W.kitx_dict I.kIn ⟨o, h1, h2.1⟩ e (fun z => nomatch z) h
  | @ins a C dx fs ea cl ha hn htk hm =>
    cases (show u = Value.ref a from rx)
    obtain ⟨mA, O, _⟩ := ins_get I.hok ea
    obtain ⟨od, J, _⟩ := O.look
    exact PySem.W.kia_one (PySem.W.kitx_own (cl.get _) cl.hd ha hn htk hm) I.kIn J e (fun z => nomatch z) h
end
end L2

namespace L2
open PySem PySem.Spec PyProof.Rows

/-! ### room -/
structure Room (k : Nat) (A : Around) : Prop where
  hd : A.handled = none
  dp : A.depth + 3 * k + 5 < recursionLimit
  un : A.units + 16 * k + 200 < cLine
theorem Room.mono {j k : Nat} {A : Around} (r : Room k A) (h : j ≤ k) : Room j A := ⟨r.hd, by have := r.dp; omega, by have := r.un; omega⟩
theorem Room.deeper {k : Nat} {A : Around} (r : Room (k + 1) A) (env : Env) : Room k (A.deeper env) :=
  ⟨r.hd, by have := r.dp; show A.depth + 1 + 3 * k + 5 < _; omega, by have := r.un; show A.units + 3 + 16 * k + 200 < _; omega⟩
theorem Room.depth {k : Nat} {A : Around} (r : Room k A) : A.depth < recursionLimit := by have := r.dp; omega
theorem Room.units {k : Nat} {A : Around} (r : Room k A) : A.units + 64 < cLine := by have := r.un; omega
/-! ### argument lists and displays -/
def tNil : TA := fun _ H Q => Q [] H
def tCons (ta : TE) (tr : TA) : TA := fun σ H Q => ta σ H fun x H1 => tr σ H1 fun xs H2 => Q (x :: xs) H2
section
variable {X : Cx} {e : Expr} {es : List Expr} {te : TE} {t : TA} {pos : Pos}
theorem pa_nil : PA X [] tNil := fun _ _ _ _ H Q I h => Calls.spliced_nil ⟨[], H, I, .nil, h⟩
theorem pa_cons (ha : PE X e te) (hr : PA X es t) (hs : starEach (e :: es) X.env = (false, eval e X.env) :: starEach es X.env := by rfl) : PA X (e :: es) (tCons te t) := by
  intro pos pins s σ H Q I h
  rw [hs]
  show wpAny _ _ (spliced ((false, eval e X.env) :: backTo pos (starEach es X.env))) _ _ s
  refine Calls.spliced_cons (thn (ha pins s σ H _ I h) fun u s1 ⟨x, H1, I1, r1, q1⟩ => ?_)
  exact thn (hr pos pins s1 σ H1 _ I1 q1) fun us s2 ⟨xs, H2, I2, r2, q2⟩ => ⟨x :: xs, H2, I2, .cons r1 r2, q2⟩

/-- a tuple, a list of written items -/
def tTup (t : TA) : TE := fun σ H Q => t σ H fun xs H1 => xs.length ≤ sizeLine ∧ ∀ p, H1 p = none → Q (.ref p) (upd H1 p (.tup xs))
def tLst (t : TA) : TE := fun σ H Q => t σ H fun xs H1 => xs.length ≤ sizeLine ∧ ∀ p, H1 p = none → Q (.ref p) (upd H1 p (.lst xs))
theorem pe_tup {x1} (h : PA X es t) : PE X (.Tuple es x1 pos) (tTup t) := by
  intro pins s σ H Q I hq
  refine wpAny_Tuple_spliced (thn (h pos pins s σ H _ I hq) fun us s1 ⟨xs, H1, I1, r, z, q⟩ => ⟨by rw [← r.length]; exact z, ?_⟩)
  have hf : H1 s1.heap.objs.size = none := I1.hok.fresh (Nat.le_refl _)
  refine ⟨.ref s1.heap.objs.size, upd H1 s1.heap.objs.size (.tup xs), I1.laid (t' := s1.toks) (fun b u e => Heap.get?_push_of_some _ e) (Nat.le_refl _) ?_, rfl, q _ hf⟩
  exact ⟨z, us, r, ⟨_, Heap.get?_push_size _ rfl, rfl, _, rfl⟩⟩
theorem pe_lst (h : PA X es t) : PE X (.List es pos) (tLst t) := by
  intro pins s σ H Q I hq
  refine wpAny_List_spliced (thn (h pos pins s σ H _ I hq) fun us s1 ⟨xs, H1, I1, r, z, q⟩ => ⟨by rw [← r.length]; exact z, ?_⟩)
  have hf : H1 s1.heap.objs.size = none := I1.hok.fresh (Nat.le_refl _)
  refine ⟨.ref s1.heap.objs.size, upd H1 s1.heap.objs.size (.lst xs), I1.laid (t' := s1.toks) (fun b u e => Heap.get?_push_of_some _ e) (Nat.le_refl _) ?_, rfl, q _ hf⟩
  exact ⟨z, us, 0, r, Heap.get?_push_size _ rfl⟩
end

/-! ### what a def promises -/
/-- a def's promise: the bound arguments in the parameters' order, the heap, the wanted end, the wanted exception -/
abbrev Sp := List V → Hp → VK → XK → Prop
/-- how an exception lies behind a call (file 08 gives it): the callers' frames, abstract heap and state ahead of the call, the wish, the exception, the state -/
abbrev CXT := List Env → Hp → Shared → XK → Value → Shared → Prop

/-- the state at a call -/
structure Env0 (P : Program) (w : World) (K : PySem.W.Frag) (mg : Str → Option Value) (base : Heap) (A : Around) (outer : List Env) (s : Shared) (H : Hp) : Prop where
  frames : A.frames = some outer
  mod : Mod K mg base
  bs : ∀ b o, base.get? b = some o → s.heap.get? b = some o ∧ H b = none
  bsz : base.objs.size ≤ s.heap.objs.size
  funs : s.heap.FunFrames base outer
  frf : ∀ b ∈ frs outer, H b = none
  hok : HOk P w H s.heap
  bare : AllBare s.gens
/-- a call's end -/
def CE (outer : List Env) (P : Program) (w : World) (H : Hp) (s : Shared) (Q : VK) (u : Value) (s' : Shared) : Prop :=
  ∃ v H', s'.os = s.os ∧ AllBare s'.gens ∧ Un (frs outer) [] H H' s.heap s'.heap ∧ HOk P w H' s'.heap ∧ RelV v u ∧ Q v H'
def CR (CX : CXT) (outer : List Env) (P : Program) (w : World) (H : Hp) (s : Shared) (Q : VK) (E : XK) (r : Result) (s' : Shared) : Prop :=
  match r with
  | .ok (.ret u) => CE outer P w H s Q u s'
  | .ok _ => False
  | .error e => CX outer H s E e s'
structure FnOk (P : Program) (w : World) (K : PySem.W.Frag) (mg : Str → Option Value) (base : Heap) (CX : CXT) (k : Nat) (f : Addr) (fd : FuncData) (ps : List Str) (sp : Sp) : Prop where
  len : ∀ vs H Q E, sp vs H Q E → vs.length = ps.length
  run : ∀ (A : Around) (outer : List Env) (s : Shared) (H : Hp) (args : Args) (us : List Value) (vs : List V) (Q : VK) (E : XK), Room k A → Env0 P w K mg base A outer s H → BindsTo s fd args (ps.zip us) → Vals vs us → sp vs H Q E →
    codeAny (model P w) A (.call (.ref f) args) (CR CX outer P w H s Q E) s
theorem FnOk.mono {P : Program} {w : World} {K : PySem.W.Frag} {mg : Str → Option Value} {base : Heap} {CX : CXT} {j k : Nat} {f : Addr} {fd : FuncData} {ps : List Str} {sp : Sp} (F : FnOk P w K mg base CX j f fd ps sp) (h : j ≤ k) :
    FnOk P w K mg base CX k f fd ps sp := ⟨F.len, fun A outer s H args us vs Q E hr => F.run A outer s H args us vs Q E (hr.mono h)⟩
/-- a weaker promise -/
theorem FnOk.imp {P : Program} {w : World} {K : PySem.W.Frag} {mg : Str → Option Value} {base : Heap} {CX : CXT} {k : Nat} {f : Addr} {fd : FuncData} {ps : List Str} {sp sp' : Sp} (F : FnOk P w K mg base CX k f fd ps sp)
    (h : ∀ vs H Q E, sp' vs H Q E → sp vs H Q E) : FnOk P w K mg base CX k f fd ps sp' :=
  ⟨fun vs H Q E q => F.len vs H Q E (h _ _ _ _ q), fun A outer s H args us vs Q E hr he hb hv hs => F.run A outer s H args us vs Q E hr he hb hv (h _ _ _ _ hs)⟩

section
variable {X : Cx} {pins : List (Addr × Obj)} {σ : St} {H : Hp} {s s' : Shared}
/-- from a body: what a callee wants -/
theorem Inv.env0 (I : Inv X pins σ H s) : Env0 X.prog X.w X.K X.mg X.base X.A X.stack s H :=
  ⟨I.ok.frames, I.ok.mod, I.bs, Nat.le_trans I.ok.bsz I.sz, I.stack, I.stkFree, I.hok, I.bare⟩
/-- behind a call -/
theorem Inv.after {Q : VK} {u : Value} (I : Inv X pins σ H s) (h : CE X.stack X.prog X.w H s Q u s') : EP X pins σ Q u s' := by
  obtain ⟨v, H', os, bare, un, hok, r, q⟩ := h
  obtain ⟨hh, g, d, t, os'⟩ := s'
  obtain rfl : os' = s.os := os
  exact ⟨v, H', I.call (h' := hh) (g' := g) (d' := d) (t' := t) (ch := []) un hok bare (fun b z => absurd z (by simp)), r, q⟩
end

/-! ### calls -/
/-- f(..): the written arguments, then the defaults dvs; E: what is wanted of an exception -/
def tCall (sp : Sp) (dvs : List V) (E : XK) (t : TA) : TE := fun σ H Q => t σ H fun vs H1 => sp (vs ++ dvs) H1 Q E
/-- o.m(..) of an instance of the class at C -/
def tMeth (C : Addr) (m : Str) (sp : Sp) (dvs : List V) (E : XK) (ta : TE) (t : TA) : TE := fun σ H Q => ta σ H fun x H1 => ∃ a dx fs, x = .ref a ∧ H1 a = some (.ins C dx fs) ∧ fs.lookup m = none ∧
  t σ H1 fun vs H2 => sp (x :: (vs ++ dvs)) H2 Q E
/-- C(..): a new instance and its dict, then __init__ -/
def tMake (C : Addr) (sp : Sp) (dvs : List V) (E : XK) (t : TA) : TE := fun σ H Q => t σ H fun vs H1 => ∀ x dx, H1 x = none → H1 dx = none → dx ≠ x →
  sp (.ref x :: (vs ++ dvs)) (upd (upd H1 dx (.own x)) x (.ins C dx [])) (fun v H2 => v = .non ∧ Q (.ref x) H2) E

/-- how the parameters are bound: us the positional arguments, kw the keywords' values by name, ds the defaults that fill up -/
def Binds (K : PySem.W.Frag) (fd : FuncData) (ps : List Str) (ds : List Value) : Prop :=
  ∀ (s : Shared) (us : List Value), K.In s.heap → (us ++ ds).length = ps.length → BindsTo s fd ⟨us, []⟩ (ps.zip (us ++ ds))
/-- every parameter is given -/
theorem Binds.all {K : PySem.W.Frag} {fd : FuncData} {ps : List Str} (h : ∀ us : List Value, us.length = ps.length → bindArgs fd ⟨us, []⟩ = pure (ps.zip us)) : Binds K fd ps [] := fun s us _ hl => by
  rw [List.append_nil] at hl ⊢
  exact .of_eq (h us hl)

/-- an exception of a callee reaches what this body wants of exceptions -/
def Passes (CX : CXT) (X : Cx) (E : XK) : Prop := ∀ (pins : List (Addr × Obj)) (σ : St) (H : Hp) (s : Shared) (e : Value) (s' : Shared), Inv X pins σ H s → CX X.stack H s E e s' → X.xe e s'

section
variable {X : Cx} {CX : CXT} {k : Nat} {f C : Addr} {fd : FuncData} {ps : List Str} {sp : Sp} {dvs : List V} {ds : List Value} {E : XK} {x m : Str} {p pos apos : Pos} {e o : Expr} {es : List Expr} {ta : TE} {t : TA}

/-- the callee runs -/
theorem run_fn {pins : List (Addr × Obj)} {σ : St} {H : Hp} {s : Shared} {Q : VK} {us : List Value} {vs : List V} (F : FnOk X.prog X.w X.K X.mg X.base CX k f fd ps sp) (hr : Room k X.A) (hb : Binds X.K fd ps ds) (hd : Vals dvs ds) (hx : Passes CX X E)
    (I : Inv X pins σ H s) (r : Vals vs us) (h : sp (vs ++ dvs) H Q E) : wpAny (model X.prog X.w) X.A (call (.ref f) us) (EP X pins σ Q) X.xe s := by
  have r2 : Vals (vs ++ dvs) (us ++ ds) := r.append hd
  have hl : (us ++ ds).length = ps.length := by rw [← r2.length]; exact F.len _ _ _ _ h
  refine wpAny_call (codeAny_mono (F.run X.A X.stack s H ⟨us, []⟩ (us ++ ds) (vs ++ dvs) Q E hr I.env0 (hb s us I.kIn hl) r2 h) fun r s' hq => ?_)
  cases r with
  | error e => exact hx pins σ H s e s' I hq
  | ok fl =>
    cases fl with
    | ret u => exact I.after hq
    | next => exact False.elim hq
    | brk => exact False.elim hq
    | cont => exact False.elim hq

theorem pe_call (F : FnOk X.prog X.w X.K X.mg X.base CX k f fd ps sp) (hr : Room k X.A) (hg : Gl X x) (hm : X.mg x = some (.ref f)) (hk : PySem.W.keepIn X.K (.ref f) = true) (hb : Binds X.K fd ps ds) (hd : Vals dvs ds) (hx : Passes CX X E)
    (ha : PA X (e :: es) t) (hdb : (x == ("__debug__" : Str)) = false := by decide) (he : starEach (e :: es) X.env = (false, eval e X.env) :: starEach es X.env := by rfl) (hpl : (backTo pos (starEach es X.env)).any (·.1) = false := by rfl) :
    PE X (.Call (.Name x p) (e :: es) [] pos) (tCall sp dvs E t) := by
  intro pins s σ H Q I h
  refine wpAny_Call_Name_kw (ld_glob I hg hm ?_ hdb)
  refine PySem.W.callWith_K (h₀ := X.base) I.ok.mod.kin hk (thn (ha pos pins s σ H _ I h) fun us s1 ⟨vs, H1, I1, r, q⟩ => ⟨I1.kIn, ?_⟩) he hpl
  exact run_fn F hr hb hd hx I1 r q
/-- what a class must have to be made -/
structure Mk (K : PySem.W.Frag) (C f : Addr) : Prop where
  makes : PySem.W.makesIn K C = true
  init : PySem.W.findIn K (.ref C) "__init__" = some (some (.ref f))
  fn : PySem.W.isFn K (.ref f) = true
  kp : PySem.W.keepIn K (.ref C) = true

end

/-! ### keywords -/
/-- the values of the keywords, from the left -/
def PK (X : Cx) (kws : List Keyword) (t : TA) : Prop :=
  ∀ (pos : Pos) (pins : List (Addr × Obj)) (s : Shared) (σ : St) (H : Hp) (Q : List V → Hp → Prop), Inv X pins σ H s → t σ H Q → wpAny (model X.prog X.w) X.A (evalAll ((backToKw pos (keywordEach kws X.env)).map (·.2))) (AP X pins σ Q) X.xe s
section
variable {X : Cx} {CX : CXT} {k : Nat} {f C : Addr} {fd : FuncData} {ps ks : List Str} {sp : Sp} {E : XK} {x m : Str} {p pos apos kpos : Pos} {e o : Expr} {es : List Expr} {kws : List Keyword} {te ta : TE} {t tk : TA} {nm : Option Str}
/-- how a call with keywords binds: g puts the positional values us and the keywords' values ws (names ks) in the parameters' order, defaults among them -/
structure KBinds (K : PySem.W.Frag) (fd : FuncData) (ps ks : List Str) (g : List Value → List Value → List Value) (gV : List V → List V → List V) : Prop where
  to : ∀ (s : Shared) (us ws : List Value), K.In s.heap → (g us ws).length = ps.length → BindsTo s fd ⟨us, ks.zip ws⟩ (ps.zip (g us ws))
  rel : ∀ {vs : List V} {us : List Value} {zs : List V} {ws : List Value}, Vals vs us → Vals zs ws → Vals (gV vs zs) (g us ws)
def tCallK (sp : Sp) (gV : List V → List V → List V) (E : XK) (t tk : TA) : TE := fun σ H Q => t σ H fun vs H1 => tk σ H1 fun zs H2 => sp (gV vs zs) H2 Q E
variable {g : List Value → List Value → List Value} {gV : List V → List V → List V}
end

/-! ### a def's body keeps its promise -/
/-- names: the parameters first -/
structure FnScope (N P : List Str) (sc : Scope) : Prop where
  kind : sc.kind = .function
  co : sc.isCoroutine = false
  gen : sc.isGenerator = false
  nd : N.Nodup
  pre : N.take P.length = P
  par : ∀ x ∈ P, sc.names.lookup x = some .local ∨ sc.names.lookup x = some .cell
  nofree : ∀ y ∈ sc.names, y.2 ≠ .free

theorem bindL_out {kindOf : Str → Option NameKind} {x : Str} : ∀ {binds : List (Str × Value)} {m : Str → Option Value}, (∀ v, (x, v) ∉ binds) → bindL kindOf binds m x = m x
  | [], _, _ => rfl
  | (n, v) :: r, m, h => by
    unfold bindL
    rw [bindL_out fun w hw => h w (List.mem_cons_of_mem _ hw)]
    split
    · have : x ≠ n := by rintro rfl; exact h v List.mem_cons_self
      simp [this]
    · rfl
theorem bindC_out {kindOf : Str → Option NameKind} {x : Str} : ∀ {binds : List (Str × Value)} {m : Str → Option Value}, (∀ v, (x, v) ∉ binds) → bindC kindOf binds m x = m x
  | [], _, _ => rfl
  | (n, v) :: r, m, h => by
    unfold bindC
    rw [bindC_out fun w hw => h w (List.mem_cons_of_mem _ hw)]
    split
    · rfl
    · have : x ≠ n := by rintro rfl; exact h v List.mem_cons_self
      simp [this]
theorem bindL_get {kindOf : Str → Option NameKind} {x : Str} {v : Value} : ∀ {P : List Str} {vs : List Value} {i : Nat} {m : Str → Option Value}, P.Nodup → P[i]? = some x → vs[i]? = some v → kindOf x = some .local →
    bindL kindOf (P.zip vs) m x = some v
  | [], _, _, _, _, h, _, _ => by simp at h
  | _ :: _, [], _, _, _, _, h, _ => by simp at h
  | p :: P, w :: vs, 0, m, nd, h1, h2, hk => by
    simp at h1 h2; subst h1; subst h2
    show bindL kindOf ((p, w) :: P.zip vs) m p = _
    unfold bindL
    rw [bindL_out fun v hv => (List.nodup_cons.mp nd).1 (List.of_mem_zip hv).1, if_pos hk]
    simp
  | p :: P, w :: vs, i + 1, m, nd, h1, h2, hk => by
    show bindL kindOf ((p, w) :: P.zip vs) m x = _
    unfold bindL
    exact bindL_get (i := i) (List.nodup_cons.mp nd).2 (by simpa using h1) (by simpa using h2) hk
theorem bindC_get {kindOf : Str → Option NameKind} {x : Str} {v : Value} : ∀ {P : List Str} {vs : List Value} {i : Nat} {m : Str → Option Value}, P.Nodup → P[i]? = some x → vs[i]? = some v → kindOf x ≠ some .local →
    bindC kindOf (P.zip vs) m x = some v
  | [], _, _, _, _, h, _, _ => by simp at h
  | _ :: _, [], _, _, _, _, h, _ => by simp at h
  | p :: P, w :: vs, 0, m, nd, h1, h2, hk => by
    simp at h1 h2; subst h1; subst h2
    show bindC kindOf ((p, w) :: P.zip vs) m p = _
    unfold bindC
    rw [bindC_out fun v hv => (List.nodup_cons.mp nd).1 (List.of_mem_zip hv).1, if_neg hk]
    simp
  | p :: P, w :: vs, i + 1, m, nd, h1, h2, hk => by
    show bindC kindOf ((p, w) :: P.zip vs) m x = _
    unfold bindC
    exact bindC_get (i := i) (List.nodup_cons.mp nd).2 (by simpa using h1) (by simpa using h2) hk

/-- the names' values at the entry -/
def start (N : List Str) (vs : List V) : St := vs.map some ++ List.replicate (N.length - vs.length) none

/-- the context of a def's body, at its entry; an exception leaves the frame, then lies as CX says -/
def cxOf (CX : CXT) (P : Program) (w : World) (K : PySem.W.Frag) (mg : Str → Option Value) (base : Heap) (N : List Str) (qual : Str) (scope : Scope) (f : Addr) (cd : Value) (A : Around) (outer : List Env) (s : Shared) (H : Hp) (E : XK) : Cx where
  prog := P
  w := w
  K := K
  mg := mg
  base := base
  A := A.deeper (envOfC qual scope s.heap.objs.size f cd)
  N := N
  s₀ := s
  H₀ := H
  env := envOfC qual scope s.heap.objs.size f cd
  outer := outer
  stack := envOfC qual scope s.heap.objs.size f cd :: outer
  ex := []
  calm := true
  fn := fun _ => true
  pn := []
  xe := fun e s' => wpAny (model P w) (A.deeper (envOfC qual scope s.heap.objs.size f cd)) (leaving (envOfC qual scope s.heap.objs.size f cd) e) (fun _ s'' => CX outer H s E e s'') (fun e' s'' => CX outer H s E e' s'') s'

theorem cell_has {sc : Scope} {n : Nat} {x : Str} (h : sc.names.lookup x = some .cell) : ∃ c, (cellsFrom n sc.names []).lookup x = some c := by
  have q := PySem.W.cellsFrom_some sc.names n [] (.inl h)
  exact Option.isSome_iff_exists.mp q

theorem inv_start {CX : CXT} {P : Program} {w : World} {K : PySem.W.Frag} {mg : Str → Option Value} {base : Heap} {N ps : List Str} {qual : Str} {scope : Scope} {f : Addr} {cd : Value} {A : Around} {outer : List Env} {s s1 : Shared} {H : Hp} {E : XK} {us : List Value} {vs : List V}
    (S : FnScope N ps scope) (hd : A.handled = none) (e0 : Env0 P w K mg base A outer s H) (hl : vs.length = ps.length) (r : Vals vs us)
    (x : InCallC s s.heap.objs.size (bindL (envOfC qual scope s.heap.objs.size f cd).kindOf (ps.zip us) fun _ => none) (cellsFrom (s.heap.objs.size + 1) scope.names []) (bindC (envOfC qual scope s.heap.objs.size f cd).kindOf (ps.zip us) fun _ => none) s1) :
    Inv (cxOf CX P w K mg base N qual scope f cd A outer s H E) [] (start N vs) H s1 := by
  have hpl : ps.length ≤ N.length := by have := congrArg List.length S.pre; rw [List.length_take] at this; omega
  obtain ⟨h1, tk, rfl, hk⟩ := x.done
  have noA : ∀ b : Addr, b ∉ (cxOf CX P w K mg base N qual scope f cd A outer s H E).ex := fun b z => absurd (show b ∈ ([] : List Addr) from z) (by simp)
  refine ⟨⟨e0.mod, S.kind, rfl, rfl, Nat.le_refl _, fun y z c h1 h2 => ?_, fun y hy => ?_, fun y c _ h => ?_, fun _ => hd, Around.frames_deeper e0.frames, .inr ⟨rfl, rfl⟩, fun b z => absurd z (noA b), e0.bs, e0.bsz, fun b _ _ => noA b, fun b z => absurd z (noA b), e0.funs, e0.frf⟩,
    rfl, e0.bare, Un.kept hk, ⟨_, x.toInCall.ns, fun i y v h1 h2 h3 => ?_⟩, fun y c h => ⟨_, x.cell y c h⟩, e0.hok.fresh (Nat.le_refl _), fun y c h => ?_, fun p hp => absurd (show p ∈ ([] : List (Addr × Obj)) from hp) (by simp), e0.hok.kept hk, ?_⟩
  · exact name_of_addr x.apart (PySem.mem_of_lookup h1) (PySem.mem_of_lookup h2)
  · have hy : scope.names.lookup y = some .cell ∨ scope.names.lookup y = some .free := hy
    rcases hy with hy | hy
    · exact cell_has hy
    · exact absurd rfl (S.nofree _ (PySem.mem_of_lookup hy))
  · exact Nat.le_of_lt (x.above y c (PySem.mem_of_lookup h))
  · have hi : i < vs.length := by
      unfold start at h2
      by_cases hi : i < vs.length
      · exact hi
      · rw [List.getElem?_append_right (by simpa using hi)] at h2
        rw [List.getElem?_replicate] at h2
        split at h2 <;> cases h2
    have ha : vs[i]? = some v := by
      unfold start at h2
      rw [List.getElem?_append_left (by simpa using hi), List.getElem?_map] at h2
      cases e : vs[i]? with
      | none => rw [e] at h2; cases h2
      | some a => rw [e] at h2; cases h2; rfl
    obtain ⟨u, hu, rv⟩ := r.get ha
    have hp : ps[i]? = some y := by
      rw [← S.pre, List.getElem?_take_of_lt (by omega)]; exact h1
    have ndP : ps.Nodup := by rw [← S.pre]; exact S.nd.sublist (List.take_sublist _ _)
    refine ⟨u, rv, ?_⟩
    rcases S.par y (List.mem_of_getElem? hp) with k | k
    · exact .inl ⟨k, bindL_get ndP hp hu k⟩
    · obtain ⟨c, e⟩ := cell_has (n := s.heap.objs.size + 1) k
      refine .inr ⟨.inl k, c, e, ?_⟩
      have q := x.cell y c e
      rw [bindC_get ndP hp hu (by show scope.names.lookup y ≠ _; rw [k]; decide)] at q
      exact q
  · exact e0.hok.fresh (Nat.le_of_lt (x.above y c (PySem.mem_of_lookup h)))
  · unfold start
    show _ = N.length
    rw [List.length_append, List.length_map, List.length_replicate]
    omega

/-- THE RULE: a def (or a method) of the text, by its body. The body's reading t is chosen for each entry; it is run at the parameters' values -/
theorem fn_of {CX : CXT} {P : Program} {w : World} {K : PySem.W.Frag} {mg : Str → Option Value} {base : Heap} {k : Nat} {f : Addr} {name qual : Str} {params : Arguments} {body : List Stmt} {scope : Scope} {dV kV doc pm cdv ct oc : Value} {an od : Option Addr}
    {osl : Array (Option Value)} {N ps : List Str} {sp : Sp} (lk : K.lookup f = some ⟨oc, od, .func (PySem.W.fnOf name qual params body scope dV kV doc pm an cdv ct), osl⟩) (hcd : PySem.W.codeIn K cdv qual = true) (S : FnScope N ps scope)
    (len : ∀ vs H Q E, sp vs H Q E → vs.length = ps.length)
    (hbody : ∀ (A : Around) (outer : List Env) (s : Shared) (H : Hp) (vs : List V) (Q : VK) (E : XK), Room k (A.deeper (envOfC qual scope s.heap.objs.size f cdv)) → sp vs H Q E →
      ∃ t, PSs (cxOf CX P w K mg base N qual scope f cdv A outer s H E) body t ∧ t { nx := fun _ H' => Q .non H', rt := Q } (start N vs) H) :
    FnOk P w K mg base CX (k + 1) f (PySem.W.fnOf name qual params body scope dV kV doc pm an cdv ct) ps sp := by
  refine ⟨len, fun A outer s H args us vs Q E hr e0 hb r hsp => ?_⟩
  have hl := len _ _ _ _ hsp
  have KX : K.In s.heap := e0.mod.kin.keeps fun b o e => (e0.bs b o e).1
  have lim : s.heap.NoLimit := e0.mod.nolimit.keeps fun b o e => (e0.bs b o e).1
  have hkind : ∀ y ∈ ps.zip us, scope.names.lookup y.1 = some .local ∨ (scope.names.lookup y.1 = some .cell ∧ ((cellsFrom (s.heap.objs.size + 1) scope.names []).lookup y.1).isSome = true) := fun ⟨n, v⟩ hy => by
    rcases S.par n (List.of_mem_zip hy).1 with q | q
    · exact .inl q
    · exact .inr ⟨q, PySem.W.cellsFrom_some _ _ _ (.inl q)⟩
  refine codeAny_call_function hr.depth (KX _ _ lk) rfl S.co S.gen rfl (PySem.W.codeRec_of KX hcd) (hb _ _ _ _ ?_)
  refine wpAny_newFunctionEnv_cells S.kind hkind fun env he s1 x => ?_
  subst he
  refine ⟨lim.keeps x.toInCall.keep, codeAny_func ?_⟩
  obtain ⟨t, ht, hq⟩ := hbody A outer s H vs Q E (hr.deeper _) hsp
  have I : Inv (cxOf CX P w K mg base N qual scope f cdv A outer s H E) [] (start N vs) H s1 := inv_start S hr.hd e0 hl r x
  refine wpAny_mono (ht [] s1 (start N vs) H _ I hq) (fun fl s' hs => ?_) fun e s' hs => hs
  have fin : ∀ {σ' : St} {H' : Hp} {v : V} {u : Value}, Inv (cxOf CX P w K mg base N qual scope f cdv A outer s H E) [] σ' H' s' → RelV v u → Q v H' → CE outer P w H s Q u s' :=
    fun {σ' H' v u} J rv q => ⟨v, H', J.os, J.bare, J.base, J.hok, rv, q⟩
  cases fl with
  | ret u =>
    obtain ⟨v, σ', H', J, rv, q⟩ := hs
    exact fin J rv q
  | next =>
    obtain ⟨σ', H', J, q⟩ := hs
    exact fin (v := V.non) (u := Value.none) J rfl q
  | brk =>
    obtain ⟨_, _, _, q⟩ := hs
    exact False.elim q
  | cont =>
    obtain ⟨_, _, _, q⟩ := hs
    exact False.elim q
end L2

namespace L2
open PySem PySem.Spec PyProof.Rows
section
variable {X : Cx} {x : Str} {p pos : Pos} {e : Expr} {es : List Expr} {t : TA} {id T : String} {r : List V → Hp → VK → Prop}

def tCB (r : List V → Hp → VK → Prop) (t : TA) : TE := fun σ H Q => t σ H fun vs H1 => r vs H1 Q
/-- f(e, ..), f a built-in function -/
theorem pe_callB (hc : CallR X (.builtin id) r) (hg : Gl X x) (hm : X.mg x = none) (hv : bootBuiltins x = some (.builtin id)) (ha : PA X (e :: es) t) (hn : x ≠ "__name__" := by decide) (hdb : (x == ("__debug__" : Str)) = false := by decide)
    (he : starEach (e :: es) X.env = (false, eval e X.env) :: starEach es X.env := by rfl) (hpl : (backTo pos (starEach es X.env)).any (·.1) = false := by rfl) : PE X (.Call (.Name x p) (e :: es) [] pos) (tCB r t) := by
  intro pins s σ H Q I h
  refine wpAny_Call_Name_kw (ld_blt I hg hm hv ?_ hn hdb)
  exact PyProof.Rows.callWith_builtin1 (thn (ha pos pins s σ H _ I h) fun us s1 ⟨vs, H1, I1, r1, q1⟩ => hc pins s1 σ H1 vs us Q I1 r1 q1) he hpl
/-- T(e, ..), T a built-in type -/
theorem pe_callTy (hc : CallR X (.type T) r) (hg : Gl X x) (hm : X.mg x = none) (hv : bootBuiltins x = some (.type T)) (ha : PA X (e :: es) t) (hn : x ≠ "__name__" := by decide) (hdb : (x == ("__debug__" : Str)) = false := by decide)
    (he : starEach (e :: es) X.env = (false, eval e X.env) :: starEach es X.env := by rfl) (hpl : (backTo pos (starEach es X.env)).any (·.1) = false := by rfl) : PE X (.Call (.Name x p) (e :: es) [] pos) (tCB r t) := by
  intro pins s σ H Q I h
  refine wpAny_Call_Name_kw (ld_blt I hg hm hv ?_ hn hdb)
  exact PyProof.Rows.callWith_type1 (thn (ha pos pins s σ H _ I h) fun us s1 ⟨vs, H1, I1, r1, q1⟩ => hc pins s1 σ H1 vs us Q I1 r1 q1) he hpl
end
end L2

namespace HT
open PySem PyProof.Rows

/-- t < u of tuples of ints -/
def lexLt : List Int → List Int → Bool
  | [], [] => false
  | [], _ :: _ => true
  | _ :: _, [] => false
  | x :: xs, y :: ys => if x = y then lexLt xs ys else decide (x < y)
section
open PySem.SeqAt
open PySem.AutoSeq1 (wpAny_loadPart')
open PySem.MeetsSeq PySem.MeetsSeq2 PySem.MeetsSeq3

end

section
variable {prog : Program} {w : World} {A : Around} {E : Value → Shared → Prop} {s : Shared}

/-- t + u, t not empty -/
theorem cat_tup {t b : Addr} {vs ws : List Value} {Q : Value → Shared → Prop} (ht : IsTup s.heap t vs.toArray) (hb : IsTup s.heap b ws.toArray) (hv : vs ≠ [])
    (h1 : ws = [] → Q (.ref t) s) (h2 : ws ≠ [] → Q (.ref s.heap.objs.size) { s with heap := s.heap.push { cls := .type "tuple", data := .seq (vs ++ ws).toArray } })
    (hsz : vs.length + ws.length ≤ sizeLine) : wpAny (model prog w) A (binaryOp .Add (.ref t) (.ref b)) Q E s := by
  obtain ⟨⟨cls, dd, data, sl⟩, ho, hc, n, hd⟩ := id ht
  obtain ⟨⟨cls2, dd2, data2, sl2⟩, ho2, hc2, n2, hd2⟩ := id hb
  simp only at hc hd hc2 hd2
  subst hc hd hc2 hd2
  have e : vs.toArray ++ ws.toArray = (vs ++ ws).toArray := by simp
  by_cases hw : ws = []
  · exact concat_meets ⟨_, ho, rfl⟩ ⟨_, ho2, rfl⟩ noFill_tuple_add seq_tuple_add PySem.F.slot_tuple_add PySem.F.entry_tuple_add (PySem.F.args_tuple_add_2 _ _)
      (tuple_addW1 t b vs.toArray ws.toArray n n2 dd dd2 sl sl2 (by simpa using hv) (by simp [hw])) ⟨ho, ho2, h1 hw⟩
  · refine concat_meets ⟨_, ho, rfl⟩ ⟨_, ho2, rfl⟩ noFill_tuple_add seq_tuple_add PySem.F.slot_tuple_add PySem.F.entry_tuple_add (PySem.F.args_tuple_add_2 _ _)
      (tuple_addW2 t b vs.toArray ws.toArray n n2 dd dd2 sl sl2 (by simpa using hv) (by simpa using hw) (by rw [List.size_toArray, List.size_toArray]; exact hsz)) ⟨ho, ho2, ?_⟩
    rw [e]
    exact h2 hw

/-! ### t[a:b], not the whole -/
/-- a slice's bound as a place among n (d where it is left out) -/
def sIx (n d : Nat) : Option Int → Nat
  | none => d
  | some v => if v < 0 then (v + (n : Int)).toNat else min v.toNat n
end
end HT

namespace L2
open PySem PySem.Spec PyProof.Rows

/-! ### the parts of a slice -/
abbrev TO := St → Hp → (Option Int → Hp → Prop) → Prop
/-- a slice's part (left out, or an int) -/
def PO (X : Cx) (e : Option Expr) (t : TO) : Prop :=
  ∀ (pins : List (Addr × Obj)) (s : Shared) (σ : St) (H : Hp) (Q : Option Int → Hp → Prop), Inv X pins σ H s → t σ H Q →
    wpAny (model X.prog X.w) X.A (evalPart e X.env) (fun u s' => ∃ o H', Inv X pins σ H' s' ∧ IsPart u o ∧ Q o H') X.xe s
def tNoPart : TO := fun _ H Q => Q none H
def tPart (t : TE) : TO := fun σ H Q => t σ H fun x H1 => ∃ i, x = .int i ∧ Q (some i) H1

section
variable {X : Cx} {e : Expr} {te : TE} {lo hi : Option Expr} {tl th : TO} {pos p2 : Pos}

theorem po_some (h : PE X e te) : PO X (some e) (tPart te) := by
  intro pins s σ H Q I hw
  rw [evalPart_some]
  refine thn (h pins s σ H _ I hw) fun u s1 ⟨x, H1, I1, r1, q1⟩ => ?_
  obtain ⟨i, rfl, q⟩ := q1
  obtain ⟨t, rfl⟩ := r1
  exact ⟨some i, H1, I1, .int i t, q⟩

/-- what a slice of a value is, by values: the slice object stands at sl -/
def SlR (X : Cx) (r : V → Option Int → Option Int → Hp → VK → Prop) : Prop :=
  ∀ (pins : List (Addr × Obj)) (s : Shared) (σ : St) (H : Hp) (x : V) (v vl vu : Value) (lo hi : Option Int) (sl : Addr) (Q : VK), Inv X pins σ H s → RelV x v → s.heap.IsSliceOf sl vl vu .none → IsPart vl lo → IsPart vu hi → r x lo hi H Q →
    ∃ T id, typeLookup (.type T) "__getitem__" = pure (some (.builtin id)) ∧ s.TypeIs v T ∧ wpAny (model X.prog X.w) X.A (getItem v (.ref sl)) (EP X pins σ Q) X.xe s
def tSl (r : V → Option Int → Option Int → Hp → VK → Prop) (te : TE) (tl th : TO) : TE := fun σ H Q => te σ H fun x H1 => tl σ H1 fun l H2 => th σ H2 fun u H3 => r x l u H3 Q
/-- the items of xs[lo:hi] -/
def cutV (xs : List V) (lo hi : Option Int) : List V := (xs.drop (HT.sIx xs.length 0 lo)).take (HT.sIx xs.length xs.length hi - HT.sIx xs.length 0 lo)
/-- t[lo:hi], not the whole of it (the whole would be t itself) -/
def rSlT (K : PySem.W.Frag) : V → Option Int → Option Int → Hp → VK → Prop := fun x lo hi H Q => ∃ a xs, x = .ref a ∧ SqT K H a xs ∧
  ¬ (HT.sIx xs.length 0 lo = 0 ∧ HT.sIx xs.length xs.length hi = xs.length) ∧ ∀ p, H p = none → Q (.ref p) (upd H p (.tup (cutV xs lo hi)))
/-! ### t < u, t + u -/
def rLtT (K : PySem.W.Frag) : R2 := fun x y H Q => ∃ a b ns ms, x = .ref a ∧ y = .ref b ∧ SqT K H a (ns.map V.int) ∧ SqT K H b (ms.map V.int) ∧ Q (.bl (HT.lexLt ns ms)) H
/-- t + u, t not empty: u empty gives t itself -/
def rCatT (K : PySem.W.Frag) : R2 := fun x y H Q => ∃ a b xs ys, x = .ref a ∧ y = .ref b ∧ SqT K H a xs ∧ SqT K H b ys ∧ xs ≠ [] ∧ xs.length + ys.length ≤ sizeLine ∧
  (ys = [] → Q (.ref a) H) ∧ (ys ≠ [] → ∀ p, H p = none → Q (.ref p) (upd H p (.tup (xs ++ ys))))
theorem Vals.nil_iff {xs : List V} {us : List Value} (r : Vals xs us) : us = [] ↔ xs = [] := by
  cases r with
  | nil => simp
  | cons _ _ => simp
theorem op_catT : OpR X (binaryOp .Add) (rCatT X.K) := by
  intro pins s σ H x y v u Q I rx ry h
  obtain ⟨a, b, xs, ys, rfl, rfl, ha, hb, hx, hz, q1, q2⟩ := h
  cases rx
  cases ry
  obtain ⟨its, r1, p1, _⟩ := I.tuple ha
  obtain ⟨its2, r2, p2, _⟩ := I.tuple hb
  refine HT.cat_tup p1 p2 (fun z => hx (r1.nil_iff.mp z)) (fun z => ⟨.ref a, H, I, rfl, q1 (r2.nil_iff.mp z)⟩) (fun z => ?_) (by rw [← r1.length, ← r2.length]; exact hz)
  refine ⟨.ref s.heap.objs.size, _, I.laid (t' := s.toks) (o := .tup (xs ++ ys)) (fun b ob q => Heap.get?_push_of_some _ q) (Nat.le_refl _) ?_, rfl, q2 (fun w => z (r2.nil_iff.mpr w)) _ (I.hok.fresh (Nat.le_refl _))⟩
  exact ⟨by rw [List.length_append]; exact hz, _, r1.append r2, IsTup.new _ _⟩
end
end L2

namespace L2
open PySem PySem.Spec PyProof.Rows

/-! ### places -/
/-- the place that an index of any sign means -/
def ixN (n : Nat) (i : Int) : Option Nat := if 0 ≤ i then (if i < n then some i.toNat else none) else if -(n : Int) ≤ i then some (i + n).toNat else none
def atI {α : Type} (xs : List α) (i : Int) : Option α := (ixN xs.length i).bind fun j => xs[j]?
theorem ixN_seq {n : Nat} {i : Int} {j : Nat} (h : ixN n i = some j) : seqIndex? i n = some j ∧ j < n ∧ -(n : Int) ≤ i ∧ i < n := by
  unfold ixN at h
  by_cases h0 : 0 ≤ i
  · rw [if_pos h0] at h
    by_cases h1 : i < n
    · rw [if_pos h1] at h
      have e : i.toNat = j := Option.some.inj h
      exact ⟨by rw [seqIndex_of h0 h1, e], by omega, by omega, h1⟩
    · rw [if_neg h1] at h; cases h
  · rw [if_neg h0] at h
    by_cases h1 : -(n : Int) ≤ i
    · rw [if_pos h1] at h
      have e : (i + n).toNat = j := Option.some.inj h
      exact ⟨by rw [seqIndex_neg (by omega) h1, e], by omega, h1, by omega⟩
    · rw [if_neg h1] at h; cases h
theorem atI_get {α : Type} {xs : List α} {i : Int} {v : α} (h : atI xs i = some v) : ∃ j, seqIndex? i xs.length = some j ∧ xs[j]? = some v ∧ j < xs.length ∧ -(xs.length : Int) ≤ i ∧ i < xs.length := by
  unfold atI at h
  cases e : ixN xs.length i with
  | none => rw [e] at h; cases h
  | some j =>
    rw [e] at h
    obtain ⟨h1, h2, h3, h4⟩ := ixN_seq e
    exact ⟨j, h1, h, h2, h3, h4⟩
theorem atI_nat {α : Type} {xs : List α} {j : Nat} {v : α} (h : xs[j]? = some v) : atI xs (j : Int) = some v := by
  have hj : j < xs.length := (List.getElem?_eq_some_iff.mp h).1
  have e : ixN xs.length (j : Int) = some j := by
    unfold ixN
    rw [if_pos (by omega), if_pos (by omega)]; simp
  unfold atI; rw [e]; exact h
/-! ### what may be subscripted -/
/-- what stands as an index of a plain subscript -/
def PlainIx (b : Expr) : Prop := ∀ o i, subscripted b false o i = operate [o, i] (getItem o i)
/-- a subscript by values -/
def IxR (X : Cx) (r : R2) : Prop :=
  ∀ (value slice : Expr) (pins : List (Addr × Obj)) (s : Shared) (σ : St) (H : Hp) (x y : V) (v u : Value) (Q : VK), Inv X pins σ H s → RelV x v → RelV y u → r x y H Q →
    subscripted slice false v u = operate [v, u] (getItem v u) → wpAny (model X.prog X.w) X.A (subscriptTail value slice v u) (EP X pins σ Q) X.xe s
/-- a call of a builtin's method by values: the receiver, the arguments -/
def MtR (X : Cx) (id : String) (r : V → List V → Hp → VK → Prop) : Prop :=
  ∀ (pins : List (Addr × Obj)) (s : Shared) (σ : St) (H : Hp) (x : V) (xs : List V) (v : Value) (us : List Value) (Q : VK), Inv X pins σ H s → RelV x v → Vals xs us → r x xs H Q →
    wpAny (model X.prog X.w) X.A (call (.builtin id) (v :: us)) (EP X pins σ Q) X.xe s
section
variable {X : Cx} {a b : Expr} {ta tb : TE} {pos : Pos}
/-- a[b] -/
theorem pe_ix {r : R2} (hr : IxR X r) (ha : PE X a ta) (hb : PE X b tb) (hs : PlainIx b) : PE X (.Subscript a b pos) (tOp r ta tb) := by
  intro pins s σ H Q I h
  exact Subscript_ (binT ha hb I h fun v u s2 x y H2 I2 rx ry q => hr a b pins s2 σ H2 x y v u Q I2 rx ry q (hs _ _))

def rIxL (K : PySem.W.Frag) : R2 := fun x y H Q => ∃ p xs i v, x = .ref p ∧ y = .int i ∧ SqL K H p xs ∧ atI xs i = some v ∧ Q v H
def rIxT (K : PySem.W.Frag) : R2 := fun x y H Q => ∃ p xs i v, x = .ref p ∧ y = .int i ∧ SqT K H p xs ∧ atI xs i = some v ∧ Q v H
def rIxS : R2 := fun x y H Q => ∃ z i c, x = .str z ∧ y = .int i ∧ z.length ≤ sizeLine ∧ atI z.cps.toList i = some c ∧ Q (.str ⟨#[c]⟩) H
theorem ix_list : IxR X (rIxL X.K) := by
  intro value slice pins s σ H x y v u Q I rx ry h hs
  obtain ⟨p, xs, i, z, rfl, rfl, hq, he, q⟩ := h
  cases rx
  obtain ⟨t, rfl⟩ := ry
  obtain ⟨its, r, pl, hz⟩ := I.list hq
  obtain ⟨j, h1, h2, h3, h4, h5⟩ := atI_get he
  obtain ⟨w, ew, rw'⟩ := r.get h2
  have hl := r.length
  have hn := line63
  have fin : EP X pins σ Q w s := ⟨z, H, I, rw', q⟩
  by_cases h0 : 0 ≤ i
  · have hj : i.toNat = j := by
      rw [seqIndex_of h0 h5] at h1
      exact Option.some.inj h1
    exact item_listR pl.isList h0 (by omega) (by rw [hj]; simpa using ew) fin hs
  · have hj : (i + (its.toArray.size : Int)).toNat = j := by
      rw [seqIndex_neg (by omega) h4] at h1
      rw [List.size_toArray, ← hl]
      exact Option.some.inj h1
    exact subscriptTail_builtinR (x := w) pl.isList.typeIs slot_list_getitem.lookup
      (wpAny_getItem_list_neg (Q := fun r s' => r = w ∧ EP X pins σ Q r s') pl.isList (by omega) (by rw [List.size_toArray] <;> omega) (by omega) (by rw [hj]; simpa using ew) ⟨rfl, fin⟩) hs
theorem ix_tup : IxR X (rIxT X.K) := by
  intro value slice pins s σ H x y v u Q I rx ry h hs
  obtain ⟨p, xs, i, z, rfl, rfl, hq, he, q⟩ := h
  cases rx
  obtain ⟨t, rfl⟩ := ry
  obtain ⟨its, r, pl, hz⟩ := I.tuple hq
  obtain ⟨j, h1, h2, h3, h4, h5⟩ := atI_get he
  obtain ⟨w, ew, rw'⟩ := r.get h2
  have hl := r.length
  have hn := line63
  have fin : EP X pins σ Q w s := ⟨z, H, I, rw', q⟩
  exact subscriptTail_builtinR (x := w) pl.typeIs slot_tuple_getitem.lookup
    (getItem_tuple (j := j) (Q := fun r s' => r = w ∧ EP X pins σ Q r s') pl (by omega) (by omega) (by rw [List.size_toArray, ← hl]; exact h1) (by simpa using ew) ⟨rfl, fin⟩) hs
/-- list, tuple or str -/
def rIx (K : PySem.W.Frag) : R2 := fun x y H Q => rIxL K x y H Q ∨ rIxT K x y H Q ∨ rIxS x y H Q
/-! ### xs[i] = v, any sign -/
/-- the list's object behind a store -/
theorem mapSeq_set (its : List Value) (n j : Nat) (u : Value) : Obj.mapSeq (·.setIfInBounds j u) { cls := .type "list", data := .seq its.toArray n } = { cls := .type "list", data := .seq (its.set j u).toArray n } := by
  simp [Obj.mapSeq]
theorem Inv.lst {pins : List (Addr × Obj)} {σ : St} {H : Hp} {s : Shared} {p : Addr} {xs : List V} (I : Inv X pins σ H s) (h : H p = some (.lst xs)) :
    ∃ (its : List Value) (n : Nat), Vals xs its ∧ s.heap.get? p = some { cls := .type "list", data := .seq its.toArray n } ∧ xs.length ≤ sizeLine := by
  obtain ⟨z, its, n, r, e⟩ := I.hok p _ h
  exact ⟨its, n, r, e, z⟩
/-- the list at p is written by an update of its object -/
theorem Inv.lstUpd {pins : List (Addr × Obj)} {σ : St} {H : Hp} {s : Shared} {p : Addr} {xs ys : List V} {its its' : List Value} {n n' : Nat} {f : Obj → Obj} (I : Inv X pins σ H s) (h : H p = some (.lst xs))
    (ho : s.heap.get? p = some { cls := .type "list", data := .seq its.toArray n }) (hf : f { cls := .type "list", data := .seq its.toArray n } = { cls := .type "list", data := .seq its'.toArray n' }) (r : Vals ys its') (hz : ys.length ≤ sizeLine) (t : Nat) :
    Inv X pins σ (upd H p (.lst ys)) { s with heap := s.heap.update p f, toks := t } := by
  have e : (s.heap.update p f).get? p = some { cls := .type "list", data := .seq its'.toArray n' } := by
    rw [Heap.get?_update_self f ho (by rw [hf] <;> rfl), hf]
  refine I.write (x := p) (e := p) (by rw [h]; trivial) (.inl rfl) (fun b u hb q => (Heap.get?_update_other _ _ (Ne.symm hb)).trans q) ⟨_, e⟩ ?_
  exact ⟨hz, its', n', r, e⟩
def rSetL : V → V → V → Hp → (Hp → Prop) → Prop := fun o i v H Q => ∃ p xs k j, o = .ref p ∧ i = .int k ∧ H p = some (.lst xs) ∧ ixN xs.length k = some j ∧ Q (upd H p (.lst (xs.set j v)))
theorem set_list : PSet X rSetL := by
  intro pins s σ H o i v ov iv u Q I ro ri rv h
  obtain ⟨p, xs, k, j, rfl, rfl, hp, hj, q⟩ := h
  cases ro
  obtain ⟨t, rfl⟩ := ri
  obtain ⟨its, n, r, ho, hz⟩ := I.lst hp
  obtain ⟨h1, h2, h3, h4⟩ := ixN_seq hj
  have hl := r.length
  have hn := line63
  have I' : Inv X pins σ (upd H p (.lst (xs.set j v))) { s with heap := s.heap.update p (Obj.mapSeq (·.setIfInBounds j u)) } :=
    I.lstUpd hp ho (mapSeq_set its n j u) (r.set rv j) (by rw [List.length_set]; exact hz) s.toks
  by_cases h0 : 0 ≤ k
  · have hk : k.toNat = j := by
      rw [seqIndex_of h0 h4] at h1
      exact Option.some.inj h1
    exact PySem.W.ki_setAt ho h0 (by omega) (by rw [List.size_toArray, ← hl]; exact h4) (by rw [hk]; exact ⟨_, I', q⟩)
  · have hk : (k + (its.toArray.size : Int)).toNat = j := by
      rw [seqIndex_neg (by omega) h3] at h1
      rw [List.size_toArray, ← hl]
      exact Option.some.inj h1
    exact PySem.W.ki_setBack ho (by omega) (by rw [List.size_toArray, ← hl]; exact h3) (by omega) (by rw [hk]; exact ⟨_, I', q⟩)

/-! ### slices -/
/-- xs[lo:hi] of a list: a new list -/
def rSlL (K : PySem.W.Frag) : V → Option Int → Option Int → Hp → VK → Prop := fun x lo hi H Q => ∃ a xs, x = .ref a ∧ SqL K H a xs ∧ ∀ p, H p = none → Q (.ref p) (upd H p (.lst (cutV xs lo hi)))
/-! ### in, not in: flat items -/
def flatV : V → Bool
  | .non => true
  | .bl _ => true
  | .int _ => true
  | .str _ => true
  | _ => false
/-- == of flat values -/
def eqV : V → V → Bool
  | .non, .non => true
  | .bl a, .bl b => a == b
  | .bl a, .int b => (if a then 1 else 0) == b
  | .int a, .bl b => a == (if b then 1 else 0)
  | .int a, .int b => a == b
  | .str a, .str b => a == b
  | _, _ => false
theorem eqAt_V {A : Around} {s : Shared} {y x : V} {u v : Value} (ry : RelV y u) (rx : RelV x v) (fy : flatV y = true) (fx : flatV x = true) : SeqAt.EqAt A s u v (eqV y x) := by
  cases y with
  | non =>
    cases ry
    cases x with
    | non => cases rx; exact SeqAt.EqAt.same _
    | bl b => cases rx; exact SeqAt.EqAt.none_bool b
    | int b => obtain ⟨t, rfl⟩ := rx; exact SeqAt.EqAt.none_int b t
    | str b => obtain ⟨t, rfl⟩ := rx; exact SeqAt.EqAt.none_str b t
    | _ => exact absurd (show false = true from fx) Bool.false_ne_true
  | bl a =>
    cases ry
    cases x with
    | non => cases rx; exact SeqAt.EqAt.bool_none a
    | bl b => cases rx; exact SeqAt.EqAt.bool_bool a b
    | int b => obtain ⟨t, rfl⟩ := rx; exact SeqAt.EqAt.bool_int a b t
    | str b => obtain ⟨t, rfl⟩ := rx; exact SeqAt.EqAt.bool_str a b t
    | _ => exact absurd (show false = true from fx) Bool.false_ne_true
  | int a =>
    obtain ⟨t', rfl⟩ := ry
    cases x with
    | non => cases rx; exact SeqAt.EqAt.int_none a t'
    | bl b => cases rx; exact SeqAt.EqAt.int_bool a t' b
    | int b => obtain ⟨t, rfl⟩ := rx; exact SeqAt.EqAt.int_int a t' b t
    | str b => obtain ⟨t, rfl⟩ := rx; exact SeqAt.EqAt.int_str a t' b t
    | _ => exact absurd (show false = true from fx) Bool.false_ne_true
  | str a =>
    obtain ⟨t', rfl⟩ := ry
    cases x with
    | non => cases rx; exact SeqAt.EqAt.str_none a t'
    | bl b => cases rx; exact SeqAt.EqAt.str_bool a t' b
    | int b => obtain ⟨t, rfl⟩ := rx; exact SeqAt.EqAt.str_int a t' b t
    | str b => obtain ⟨t, rfl⟩ := rx; exact SeqAt.EqAt.str_str a t' b t
    | _ => exact absurd (show false = true from fx) Bool.false_ne_true
  | _ => exact absurd (show false = true from fy) Bool.false_ne_true
/-- the items' answers, read off the values (a value's own answer does not lean on its token) -/
def eqU (x : V) (u : Value) : Bool := match u with
  | .none => eqV .non x
  | .bool b => eqV (.bl b) x
  | .int i _ => eqV (.int i) x
  | .str z _ => eqV (.str z) x
  | _ => false
theorem eqU_of {x y : V} {u : Value} (r : RelV y u) (f : flatV y = true) : eqU x u = eqV y x := by
  cases y with
  | non => cases r; rfl
  | bl b => cases r; rfl
  | int i => obtain ⟨t, rfl⟩ := r; rfl
  | str z => obtain ⟨t, rfl⟩ := r; rfl
  | _ => exact absurd (show false = true from f) Bool.false_ne_true
theorem any_eqU {x : V} : ∀ {xs : List V} {us : List Value}, Vals xs us → xs.all flatV = true → us.any (eqU x) = xs.any fun y => eqV y x
  | _, _, .nil, _ => rfl
  | y :: xs, u :: us, .cons r t, f => by
    rw [List.all_cons, Bool.and_eq_true] at f
    rw [List.any_cons, List.any_cons, eqU_of r f.1, any_eqU t f.2]
theorem mem_eqAt {A : Around} {s : Shared} {x : V} {v : Value} (rx : RelV x v) (fx : flatV x = true) : ∀ {xs : List V} {us : List Value}, Vals xs us → xs.all flatV = true → ∀ u ∈ us, SeqAt.EqAt A s u v (eqU x u)
  | _, _, .nil, _ => fun u hu => by cases hu
  | y :: xs, u :: us, .cons r t, f => fun u' hu => by
    rw [List.all_cons, Bool.and_eq_true] at f
    rcases List.mem_cons.mp hu with rfl | hu
    · rw [eqU_of r f.1]; exact eqAt_V r rx f.1 fx
    · exact mem_eqAt rx fx t f.2 u' hu
def inV (x : V) (xs : List V) : Bool := xs.any fun y => eqV y x
/-- x in a list or tuple of flat items -/
def rIn (K : PySem.W.Frag) (neg : Bool) : R2 := fun x y H Q => ∃ p xs, y = .ref p ∧ (SqL K H p xs ∨ SqT K H p xs) ∧ flatV x = true ∧ xs.all flatV = true ∧ Q (.bl (if neg then !inV x xs else inV x xs)) H
theorem op_in_seq : OpR X (compareOp .In) (rIn X.K false) := by
  intro pins s σ H x y v u Q I rx ry h
  obtain ⟨p, xs, rfl, hq, fx, fs, q⟩ := h
  cases ry
  rcases hq with hq | hq
  · obtain ⟨its, r, pl, hz⟩ := I.list hq
    refine SeqAt.in_listAt (eqU x) pl.isList (fun w hw => mem_eqAt rx fx r fs w (by simpa using hw)) ⟨.bl _, H, I, rfl, ?_⟩
    rw [show its.toArray.any (eqU x) = its.any (eqU x) by simp, any_eqU r fs]
    exact q
  · obtain ⟨its, r, pl, hz⟩ := I.tuple hq
    refine SeqAt.in_tupleAt (eqU x) pl (fun w hw => mem_eqAt rx fx r fs w (by simpa using hw)) ⟨.bl _, H, I, rfl, ?_⟩
    rw [show its.toArray.any (eqU x) = its.any (eqU x) by simp, any_eqU r fs]
    exact q
theorem op_notIn_seq : OpR X (compareOp .NotIn) (rIn X.K true) := by
  intro pins s σ H x y v u Q I rx ry h
  obtain ⟨p, xs, rfl, hq, fx, fs, q⟩ := h
  cases ry
  rcases hq with hq | hq
  · obtain ⟨its, r, pl, hz⟩ := I.list hq
    refine SeqAt.notIn_listAt (eqU x) pl.isList (fun w hw => mem_eqAt rx fx r fs w (by simpa using hw)) ⟨.bl _, H, I, rfl, ?_⟩
    rw [show its.toArray.any (eqU x) = its.any (eqU x) by simp, any_eqU r fs]
    exact q
  · obtain ⟨its, r, pl, hz⟩ := I.tuple hq
    refine SeqAt.notIn_tupleAt (eqU x) pl (fun w hw => mem_eqAt rx fx r fs w (by simpa using hw)) ⟨.bl _, H, I, rfl, ?_⟩
    rw [show its.toArray.any (eqU x) = its.any (eqU x) by simp, any_eqU r fs]
    exact q
/-! ### len, list(x), tuple(x) of any list or tuple that is read -/
theorem call_len_seq : CallR X (.builtin "len") (fun xs H Q => ∃ p ys, xs = [.ref p] ∧ (SqL X.K H p ys ∨ SqT X.K H p ys) ∧ Q (.int ys.length) H) := by
  intro pins s σ H xs us Q I r h
  obtain ⟨p, ys, rfl, hq, q⟩ := h
  obtain ⟨u, rfl, rx⟩ := vals1 r
  cases rx
  have hn := line63
  rcases hq with hq | hq
  · obtain ⟨its, r', pl, hz⟩ := I.list hq
    have hlen := r'.length
    exact Calls.call_len_list pl.isList (by simp only [List.size_toArray] <;> omega) ⟨.int ys.length, H, I.tok _, ⟨s.toks + 1, by rw [List.size_toArray, hlen]⟩, q⟩
  · obtain ⟨its, r', pl, hz⟩ := I.tuple hq
    have hlen := r'.length
    exact len_tuple pl (by simp only [List.size_toArray] <;> omega) ⟨.int ys.length, H, I.tok _, ⟨s.toks + 1, by rw [List.size_toArray, hlen]⟩, q⟩
theorem call_list_of : CallR X (.type "list") (fun xs H Q => ∃ p ys, xs = [.ref p] ∧ (SqL X.K H p ys ∨ SqT X.K H p ys) ∧ ∀ l, H l = none → Q (.ref l) (upd H l (.lst ys))) := by
  intro pins s σ H xs us Q I r h
  obtain ⟨p, ys, rfl, hq, q⟩ := h
  obtain ⟨u, rfl, rx⟩ := vals1 r
  cases rx
  have fin : ∀ (its : List Value), Vals ys its → ys.length ≤ sizeLine → ∀ (h' : Heap) (c' : Nat), (∀ b o', s.heap.get? b = some o' → h'.get? b = some o') →
      h'.get? s.heap.objs.size = some { cls := .type "list", dict := none, data := .seq its.toArray c', slots := #[] } → EP X pins σ Q (.ref s.heap.objs.size) { s with heap := h' } := fun its r' hz h' c' kp e =>
    ⟨.ref s.heap.objs.size, _, I.laid (t' := s.toks) kp (Nat.le_refl _) (show ObjOk X.prog X.w _ h' _ (.lst ys) from ⟨hz, its, c', r', e⟩), rfl, q _ (I.hok.fresh (Nat.le_refl _))⟩
  rcases hq with hq | hq
  · obtain ⟨its, r', pl, hz⟩ := I.list hq
    have hlen := r'.length
    obtain ⟨o, ho, hc, n, hd⟩ := pl.isList
    exact call_list_seq p (.inl rfl) ho hc hd (fun h' c' kp e => fin its r' hz h' c' kp e) (by simp only [List.size_toArray] <;> omega)
  · obtain ⟨its, r', pl, hz⟩ := I.tuple hq
    have hlen := r'.length
    obtain ⟨o, ho, hc, n, hd⟩ := pl
    exact call_list_seq p (.inr rfl) ho hc hd (fun h' c' kp e => fin its r' hz h' c' kp e) (by simp only [List.size_toArray] <;> omega)
/-! ### the call of a builtin's method: o.m(..) -/
/-- the value is of that builtin type -/
def tyV (K : PySem.W.Frag) (T : String) (x : V) (H : Hp) : Prop := match x with
  | .str _ => T = "str"
  | .int _ => T = "int"
  | .ref p => (T = "list" ∧ ∃ xs, SqL K H p xs) ∨ (T = "tuple" ∧ ∃ o, K.lookup p = some o ∧ o.cls = .type "tuple" ∧ o.dict = none) ∨
      (T = "dict" ∧ ((∃ kvs, H p = some (.dK kvs)) ∨ ∃ kvs, H p = some (.dT kvs))) ∨ (T = "set" ∧ ∃ S n, H p = some (.set S n))
  | _ => False
theorem tyV_is {pins : List (Addr × Obj)} {σ : St} {H : Hp} {s : Shared} {T : String} {x : V} {v : Value} (I : Inv X pins σ H s) (r : RelV x v) (ty : tyV X.K T x H) :
    s.TypeIs v T ∧ ∀ a, v = .ref a → ∃ ob, s.heap.get? a = some ob ∧ ob.dict = none := by
  cases x with
  | str z =>
    obtain ⟨t, rfl⟩ := r
    cases (show T = "str" from ty)
    exact ⟨typeIs_str s z t, fun _ e => nomatch e⟩
  | int i =>
    obtain ⟨t, rfl⟩ := r
    cases (show T = "int" from ty)
    exact ⟨typeIs_int s i t, fun _ e => nomatch e⟩
  | ref p =>
    cases r
    rcases ty with ⟨rfl, xs, hq⟩ | ⟨rfl, o, hk, hc, hd⟩ | ⟨rfl, hk⟩ | ⟨rfl, S, n, hk⟩
    · obtain ⟨its, _, pl, _⟩ := I.list hq
      refine ⟨pl.isList.typeIs, fun a e => ?_⟩
      cases e
      obtain ⟨o, n, e, c, hd, _⟩ := pl
      exact ⟨o, e, hd⟩
    · refine ⟨⟨o, I.kIn p o hk, hc⟩, fun a e => ?_⟩
      cases e
      exact ⟨o, I.kIn _ o hk, hd⟩
    · have z : ∃ o, s.heap.get? p = some o ∧ o.ExactDict := by
        rcases hk with ⟨kvs, hk⟩ | ⟨kvs, hk⟩
        · obtain ⟨_, _, _, _, o, _, _, e, ex, _⟩ := I.hok p _ hk
          exact ⟨o, e, ex⟩
        · obtain ⟨_, _, _, _, o, _, _, e, ex, _⟩ := I.hok p _ hk
          exact ⟨o, e, ex⟩
      obtain ⟨o, e, ex⟩ := z
      refine ⟨⟨o, e, ex.1⟩, fun a e2 => ?_⟩
      cases e2
      exact ⟨o, e, ex.2.1⟩
    · obtain ⟨o, _, _, _, e, ex, _⟩ := I.hok p _ hk
      refine ⟨⟨o, e, ex.1⟩, fun a e2 => ?_⟩
      cases e2
      exact ⟨o, e, ex.2.1⟩
  | _ => exact False.elim ty
def tBM0 (K : PySem.W.Frag) (T : String) (r : V → List V → Hp → VK → Prop) (to : TE) : TE := fun σ H Q => to σ H fun x H1 => tyV K T x H1 ∧ r x [] H1 Q
def tBM (K : PySem.W.Frag) (T : String) (r : V → List V → Hp → VK → Prop) (to : TE) (t : TA) : TE := fun σ H Q => to σ H fun x H1 => tyV K T x H1 ∧ t σ H1 fun xs H2 => r x xs H2 Q
variable {o e : Expr} {es : List Expr} {to : TE} {t : TA} {name : Str} {apos cpos : Pos} {T id : String} {r : V → List V → Hp → VK → Prop}
theorem pe_bm (pa : PlainAttrs T) (slot : Slot T name id) (hty : typeOf (.builtin id) = pure (.type "method_descriptor")) (hm : MtR X id r) (ho : PE X o to) (ha : PA X (e :: es) t)
    (hbase : attributeBase o name X.env (eval o X.env) = eval o X.env := by rfl)
    (hfew : ((backTo cpos (starEach (e :: es) X.env)).all (fun x => !x.1) && (backToKw cpos (keywordEach [] X.env)).all (fun x => x.1.isSome)
      && decide ((e :: es).length + ([] : List Keyword).length + (if ([] : List Keyword).isEmpty then 0 else 1) < 30)) = true := by rfl)
    (hline : (apos.endLine == cpos.line) = true := by rfl) (hs : starEach (e :: es) X.env = (false, eval e X.env) :: starEach es X.env := by rfl) (hplain : (backTo cpos (starEach es X.env)).any (·.1) = false := by rfl) :
    PE X (.Call (.Attribute o name apos) (e :: es) [] cpos) (tBM X.K T r to t) := by
  intro pins s σ H Q I h
  refine wpAny_Call_method_late hbase hfew hline rfl (thn (ho pins s σ H _ I h) fun v s1 ⟨x, H1, I1, r1, ty, q1⟩ => ?_)
  obtain ⟨h1, h2⟩ := tyV_is I1 r1 ty
  refine ⟨T, id, pa, slot, hty, h1, h2, ?_⟩
  have hA := ha cpos pins s1 σ H1 _ I1 q1
  rw [hs] at hA ⊢
  refine Calls.callWith_builtin (by show (false || (backTo cpos (starEach es X.env)).any (·.1)) = false; rw [hplain] <;> rfl) (Calls.evalArgs_plain ?_)
  exact thn hA fun us s2 ⟨vs, H2, I2, r2, q2⟩ => hm pins s2 σ H2 x vs v us Q I2 r1 r2 q2
/- xs.append(e), list.index on a module's tuple .. are MtR facts of 06m -/
end
end L2

namespace L2
open PySem PySem.Spec PyProof.Rows

def MtM (X : Cx) (id : String) (r : V → List V → Hp → VK → Prop) : Prop :=
  ∀ (pins : List (Addr × Obj)) (s : Shared) (σ : St) (H : Hp) (x : V) (xs : List V) (v : Value) (us : List Value) (Q : VK), Inv X pins σ H s → RelV x v → Vals xs us → r x xs H Q →
    wpAny (model X.prog X.w) X.A (call (.builtin id) (v :: us)) (EP X pins σ Q) X.xe s

/-! ### lists of values -/
theorem Vals.one : ∀ {x : V} {us : List Value}, Vals [x] us → ∃ u, us = [u] ∧ RelV x u
  | _, _, .cons r .nil => ⟨_, rfl, r⟩
theorem Vals.zero : ∀ {us : List Value}, Vals [] us → us = []
  | _, .nil => rfl
theorem Vals.eraseIdx : ∀ {xs : List V} {us : List Value} (i : Nat), Vals xs us → Vals (xs.eraseIdx i) (us.eraseIdx i)
  | _, _, _, .nil => .nil
  | _, _, 0, .cons _ t => t
  | _, _, i + 1, .cons r t => .cons r (Vals.eraseIdx i t)
theorem Vals.reverse {xs : List V} {us : List Value} (h : Vals xs us) : Vals xs.reverse us.reverse := by
  induction h with
  | nil => exact .nil
  | cons r t ih => rw [List.reverse_cons, List.reverse_cons]; exact Vals.append ih (.cons r .nil)
theorem Vals.rep {xs : List V} {us : List Value} (h : Vals xs us) : ∀ k : Nat, Vals (List.replicate k xs).flatten (List.replicate k us).flatten
  | 0 => .nil
  | k + 1 => by
    rw [List.replicate_succ, List.replicate_succ, List.flatten_cons, List.flatten_cons]
    exact Vals.append h (Vals.rep h k)
theorem len_erase {α : Type} : ∀ (l : List α) (i : Nat), (l.eraseIdx i).length ≤ l.length
  | [], _ => Nat.le_refl _
  | _ :: _, 0 => Nat.le_succ _
  | _ :: r, i + 1 => Nat.succ_le_succ (len_erase r i)
theorem foldl_rep (its : List Value) : ∀ (k : Nat) (acc : List Value),
    List.foldl (fun x1 x2 => x1 ++ x2) acc.toArray (List.replicate k its.toArray) = (acc ++ (List.replicate k its).flatten).toArray
  | 0, acc => by simp
  | k + 1, acc => by
    have e : acc.toArray ++ its.toArray = (acc ++ its).toArray := by simp
    have e2 : (acc ++ its) ++ (List.replicate k its).flatten = acc ++ (List.replicate (k + 1) its).flatten := by
      rw [List.replicate_succ, List.flatten_cons, List.append_assoc]
    rw [← e2, ← foldl_rep its k (acc ++ its), ← e, List.replicate_succ, List.foldl_cons]

section
variable {X : Cx} {pins : List (Addr × Obj)} {σ : St} {H : Hp} {s : Shared} {l b : Addr} {xs ys zs : List V}

/-! ### the two steps: a tracked list is rewritten, a new list is laid -/
theorem Inv.lset {its its' : List Value} {n : Nat} {f : Array Value → Array Value} {t' : Nat} (I : Inv X pins σ H s) (hH : H l = some (.lst xs))
    (e : s.heap.get? l = some { cls := .type "list", data := .seq its.toArray n }) (hf : f its.toArray = its'.toArray) (hv : Vals ys its') (hz : ys.length ≤ sizeLine) :
    Inv X pins σ (upd H l (.lst ys)) { s with heap := s.heap.update l (Obj.mapSeq f), toks := t' } := by
  have q := PySem.IsL.update e f
  rw [hf] at q
  refine I.write (x := l) (e := l) (by rw [hH]; exact trivial) (.inl rfl) (fun b' u hb hu => (Heap.get?_update_other s.heap (Obj.mapSeq f) (Ne.symm hb)).trans hu) ⟨_, q⟩ ?_
  exact ⟨hz, its', _, hv, q⟩
theorem Inv.lnew {its : List Value} {t' : Nat} (I : Inv X pins σ H s) (hv : Vals ys its) (hz : ys.length ≤ sizeLine) :
    Inv X pins σ (upd H s.heap.objs.size (.lst ys)) { s with heap := s.heap.push { cls := .type "list", data := .seq its.toArray }, toks := t' } :=
  I.laid (fun _ _ q => Heap.get?_push_of_some _ q) (Nat.le_refl _) ⟨hz, its, 0, hv, Heap.get?_push_size _ rfl⟩
theorem Inv.fresh (I : Inv X pins σ H s) : H s.heap.objs.size = none := I.hok.fresh (Nat.le_refl _)
theorem Inv.lstM (I : Inv X pins σ H s) (hH : H l = some (.lst xs)) : xs.length ≤ sizeLine ∧ ∃ (its : List Value) (n : Nat), Vals xs its ∧ xs.length = its.length ∧ s.heap.get? l = some { cls := .type "list", data := .seq its.toArray n } := by
  obtain ⟨z, its, n, r, e⟩ := I.hok l _ hH
  exact ⟨z, its, n, r, r.length, e⟩

theorem notLongL {n : Nat} (h : n ≤ sizeLine) : Builtin.List.listTooLong n = false := by
  unfold Builtin.List.listTooLong
  exact decide_eq_false (by omega)
end

section
variable {X : Cx}

/-! ### methods -/
def rAppend : V → List V → Hp → VK → Prop := fun x vs H Q => ∃ l xs y, x = .ref l ∧ vs = [y] ∧ H l = some (.lst xs) ∧ xs.length < sizeLine ∧ Q .non (upd H l (.lst (xs ++ [y])))
theorem mt_append : MtM X "list.append" rAppend := by
  intro pins s σ H x vs v us Q I rx rv h
  obtain ⟨l, xs, y, rfl, rfl, hH, hz, q⟩ := h
  cases rx
  obtain ⟨u, rfl, ru⟩ := rv.one
  obtain ⟨z, its, n, r, hl, e⟩ := I.lstM hH
  refine call_meets F.slot_list_append ⟨_, e, rfl⟩ F.entry_list_append (F.args_list_append_2 _ _) (PySem.list_append l its.toArray n u (by rw [List.size_toArray]; omega)) ⟨e, ?_⟩
  refine ⟨.non, _, I.lset (its' := its ++ [u]) hH e (by simp) (r.append (.cons ru .nil)) ?_, rfl, q⟩
  rw [List.length_append, List.length_singleton]
  omega

def rExtend : V → List V → Hp → VK → Prop := fun x vs H Q => ∃ l b xs zs, x = .ref l ∧ vs = [.ref b] ∧ H l = some (.lst xs) ∧ H b = some (.lst zs) ∧ xs.length + zs.length ≤ sizeLine ∧ Q .non (upd H l (.lst (xs ++ zs)))
def rPop : V → List V → Hp → VK → Prop := fun x vs H Q => ∃ l xs y, x = .ref l ∧ vs = [] ∧ H l = some (.lst xs) ∧ xs[xs.length - 1]? = some y ∧ Q y (upd H l (.lst xs.dropLast))
def rPopAt : V → List V → Hp → VK → Prop := fun x vs H Q => ∃ l xs i k y, x = .ref l ∧ vs = [.int i] ∧ H l = some (.lst xs) ∧ -(2 ^ 63) ≤ i ∧ i < 2 ^ 63 ∧ seqIndex? i xs.length = some k ∧ xs[k]? = some y ∧ Q y (upd H l (.lst (xs.eraseIdx k)))
theorem mt_popAt : MtM X "list.pop" rPopAt := by
  intro pins s σ H x vs v us Q I rx rv h
  obtain ⟨l, xs, i, k, y, rfl, rfl, hH, h1, h2, hk, hy, q⟩ := h
  cases rx
  obtain ⟨u, rfl, ru⟩ := rv.one
  obtain ⟨t, rfl⟩ := ru
  obtain ⟨z, its, n, r, hl, e⟩ := I.lstM hH
  obtain ⟨w, hw, rw'⟩ := r.get hy
  refine call_meets F.slot_list_pop ⟨_, e, rfl⟩ F.entry_list_pop (F.args_list_pop_2 _ _)
    (MeetsSeq.list_pop_at l its.toArray n i t k w (fitsIndex_both h1 h2) (by rw [List.size_toArray, ← hl]; exact hk) (by rw [← Array.getElem?_toList]; exact hw) (by rw [List.size_toArray]; omega)) ⟨e, ?_⟩
  refine ⟨y, _, I.lset (its' := its.eraseIdx k) hH e ?_ (r.eraseIdx k) ?_, rw', q⟩
  · show its.toArray.eraseIdxIfInBounds k = (its.eraseIdx k).toArray
    rw [List.eraseIdxIfInBounds_toArray]
  · have := len_erase xs k
    omega

def rReverse : V → List V → Hp → VK → Prop := fun x vs H Q => ∃ l xs, x = .ref l ∧ vs = [] ∧ H l = some (.lst xs) ∧ Q .non (upd H l (.lst xs.reverse))
def rClear : V → List V → Hp → VK → Prop := fun x vs H Q => ∃ l xs, x = .ref l ∧ vs = [] ∧ H l = some (.lst xs) ∧ Q .non (upd H l (.lst []))
/-! ### list + list, list += list, list * int -/
def rCat : R2 := fun x y H Q => ∃ l b xs zs, x = .ref l ∧ y = .ref b ∧ H l = some (.lst xs) ∧ H b = some (.lst zs) ∧ xs.length + zs.length ≤ sizeLine ∧ ∀ p, H p = none → Q (.ref p) (upd H p (.lst (xs ++ zs)))
theorem op_cat : OpR X (binaryOp .Add) rCat := by
  intro pins s σ H x y v u Q I rx ry h
  obtain ⟨l, b, xs, zs, rfl, rfl, hH, hB, hz, q⟩ := h
  cases rx
  cases ry
  obtain ⟨z, its, n, r, hl, e⟩ := I.lstM hH
  obtain ⟨z2, its2, n2, r2, hl2, e2⟩ := I.lstM hB
  refine PySem.P.add_list e e2 ?_ (by rw [List.size_toArray, List.size_toArray]; omega)
  have ea : its.toArray ++ its2.toArray = (its ++ its2).toArray := by simp
  rw [ea]
  exact ⟨.ref _, _, I.lnew (t' := s.toks) (r.append r2) (by rw [List.length_append]; omega), rfl, q _ I.fresh⟩
/-- a list times an int (a negative one is nothing) -/
def rRep : R2 := fun x y H Q => ∃ l k xs, x = .ref l ∧ y = .int k ∧ H l = some (.lst xs) ∧ -(2 ^ 63) ≤ k ∧ k < 2 ^ 63 ∧ xs.length * k.toNat ≤ sizeLine ∧
  ∀ p, H p = none → Q (.ref p) (upd H p (.lst (List.replicate k.toNat xs).flatten))
theorem len_rep {α : Type} (xs : List α) (k : Nat) : (List.replicate k xs).flatten.length = k * xs.length := by
  induction k with
  | zero => simp
  | succ k ih => rw [List.replicate_succ, List.flatten_cons, List.length_append, ih, Nat.succ_mul, Nat.add_comm]
theorem op_rep : OpR X (binaryOp .Mult) rRep := by
  intro pins s σ H x y v u Q I rx ry h
  obtain ⟨l, k, xs, rfl, rfl, hH, h1, h2, hz, q⟩ := h
  cases rx
  obtain ⟨t, rfl⟩ := ry
  obtain ⟨z, its, n, r, hl, e⟩ := I.lstM hH
  have hlen : its.toArray.size * k.toNat ≤ sizeLine := by rw [List.size_toArray, ← hl]; exact hz
  have hcap : ¬ its.toArray.size * k.toNat > (2 ^ 63 - 1) / 8 := by
    have : (sizeLine : Nat) ≤ (2 ^ 63 - 1) / 8 := by decide
    omega
  have hfit : ¬ (!Builtin.List.listFitsIndex k) = true := by
    rw [fitsIndex_both h1 h2]
    exact Bool.false_ne_true
  have hlong : ¬ Builtin.List.listTooLong (its.toArray.size * k.toNat) = true := by
    rw [notLongL hlen]
    exact Bool.false_ne_true
  have hnew : List.foldl (fun x1 x2 => x1 ++ x2) #[] (List.replicate (if its.toArray.isEmpty = true then 0 else k.toNat) its.toArray) = (List.replicate k.toNat its).flatten.toArray := by
    have f0 : ∀ m : Nat, List.foldl (fun x1 x2 => x1 ++ x2) #[] (List.replicate m its.toArray) = (List.replicate m its).flatten.toArray := fun m => by
      have := foldl_rep its m []
      rw [List.nil_append] at this
      exact this
    rw [f0]
    cases its with
    | nil => simp
    | cons a r' => rw [if_neg (by simp)]
  refine wpAny_binaryOp_repeat_ref (T := "list") (U := "int") (by decide) ⟨_, e, rfl⟩ (fun s' => typeIs_int s' k t) noFill_list_mul F.fills_int_mul F.slot_int_rmul repeat_list F.slot_int_index.lookup
    (call_meets F.slot_int_rmul (typeIs_int s k t) F.entry_int_rmul (F.args_int_rmul_2 _ _) (int___rmul___int_list k t l its.toArray n)
      ⟨e, rfl, ⟨_, e, rfl⟩, call_meets F.slot_list_mul ⟨_, e, rfl⟩ F.entry_list_mul (F.args_list_mul_2 _ _) (AutoListH.list___mul___list_int_3 l its.toArray n k t hfit hcap hlong) ⟨e, ?_⟩⟩)
  rw [hnew]
  exact ⟨.ref _, _, I.lnew (t' := s.toks) (r.rep k.toNat) (by rw [len_rep, Nat.mul_comm]; exact hz), rfl, q _ I.fresh⟩

/-! ### del xs[i] -/
end

/-! ### xs[a:b] = ys -/
section
variable {prog : Program} {w : World} {A : Around} {E : Value → Shared → Prop} {s : Shared}
end

section
variable {X : Cx}
end
end L2

namespace Att
open PySem PySem.W PySem.Calls PyProof.Rows

/-! ### the script -/
theorem ints_of_wellAll {P : Params} {h : Heap} : ∀ (ns : List Int) (vs : List Value), WellAll P h vs (ns.map WData.int) → IntsAre vs ns := by
  intro ns
  induction ns with
  | nil =>
    intro vs w
    rw [List.map_nil] at w
    cases w
    exact .nil
  | cons n ns ih =>
    intro vs w
    rw [List.map_cons] at w
    cases w with
    | cons a b =>
      cases a
      exact .cons _ _ (ih _ b)

theorem script_of {l : OpenLaw} {n : Nat} (hn : l.most = some n) {P : Params} {h : Heap} {args : List WData} {vals : List Value}
    (hpre : l.row.toRowW.claim.pre args = true) (hwl : WellAll P h vals args) :
    ∃ a vs ns, vals = [Value.ref a] ∧ args = [WData.list (ns.map WData.int)] ∧ h.get? a = some { cls := .type "list", data := .seq vs.toArray } ∧ IntsAre vs ns ∧ ns.length ≤ n := by
  have hsh : WShape.hasAll [] args [.list .int] = true := (pre_splitW hpre).1
  have hc : l.pre.holds [] { args := args } = true := (pre_splitW hpre).2
  obtain ⟨d, r, rfl, h1, h2⟩ := hasAllW_cons hsh
  obtain rfl := hasAllW_nil h2
  obtain ⟨xs, rfl, h3⟩ := hasW_list h1
  obtain ⟨ns, rfl⟩ := items_int h3
  have hlen : ns.length ≤ n := by
    unfold OpenLaw.pre at hc
    have h4 : (WTm.not (.lt (.lit (.int (n : Int))) (.len (.arg 0)))).holds [] { args := [.list (ns.map .int)] } = true := by
      have h4 := (holds_andW hc).1
      rw [hn] at h4
      exact h4
    have h5 := condW_of h4 (w_not (w_lt w_lit (w_len_list (w_arg rfl))))
    rw [List.length_map] at h5
    refine Nat.le_of_not_lt fun q => ?_
    have q' : (n : Int) < ((ns.length : Nat) : Int) := by omega
    first
      | (rw [decide_eq_true q'] at h5; exact absurd h5 (by decide))
      | (simp at h5; omega)
  cases hwl with
  | cons w1 w2 =>
    cases w2
    cases w1 with
    | list ho hall => exact ⟨_, _, ns, rfl, rfl, ho, ints_of_wellAll ns _ hall, hlen⟩

theorem post_true (l : OpenLaw) (args : List WData) : l.row.toRowW.claim.post args (.bool true) args = true :=
  postW_of (r := l.row.toRowW) (X := (true == true))
    (show WShape.has [] (.bool true) .bool = true by first | rfl | decide | simp [WShape.has, WShape.arms, WShape.armsAll])
    (show (WTm.eq .res (.lit (.bool true))).value [] { args := args, res := some (.bool true), after := args } = some (.bool (true == true)) from w_eq_bool (w_res rfl) w_lit) rfl

/-! ### the attachment: holds_open's last premise (the goal 'hc' behind k_head) from a wpAny of the law's body -/
/-- the same from a codeAny of the CALL (for a layer whose function contracts speak of calls) -/
theorem attach_call {l : OpenLaw} {n : Nat} {q : Program} {loose : List Str} {XP : (Str → Option Value) → Heap → Prop} {YP : World → Heap → Prop} {d : DefRec}
    (hn : l.most = some n) (hdf : d.params.defaults = [])
    (call : ∀ (w : World) (s₀ s₁ : Shared) (mg mb : Str → Option Value) (fa : Addr) (o : Obj) (pm cd doc : Value) (a : Addr) (vs : List Value) (ns : List Int),
      Ground q loose [] XP w s₀ mg mb s₁.heap → YP w s₁.heap →
      s₁.heap.get? fa = some o → o.data = .func (docDef d.name d.params d.body d.scope pm cd doc) → s₁.heap.CodeRec cd d.name → mg d.name = some (.ref fa) →
      s₁.heap.get? a = some { cls := .type "list", data := .seq vs.toArray } → IntsAre vs ns → ns.length ≤ n → s₁.gens = #[] →
      codeAny (model l.prog w) callerA (.call (.ref fa) ⟨[.ref a], []⟩) (fun r s' => r = .ok (.ret (.bool true)) ∧ OldK s₁.heap s'.heap ∧ s'.os = s₁.os ∧ AllBare s'.gens) s₁) :
    WalkO q loose XP YP l.row.toRowW d [] (fun f vs => PySem.call f vs) := by
  intro w s₀ s₁ mg mb G Y fa o pm cd doc dV kV ho hd hcd hD hmg hg args vals as hpre hlay hrd hwl hlo
  obtain rfl : dV = .none := Dflts.none hD hdf
  obtain rfl : kV = .none := Dflts.noKw hD
  obtain ⟨a, vs, ns, rfl, rfl, hobj, hints, hlen⟩ := script_of hn hpre hwl
  refine enter_call (codeAny_mono (call w s₀ s₁ mg mb fa o pm cd doc a vs ns G Y ho (fd_plain hd) hcd hmg hobj hints hlen hg) fun r s' hq => ?_)
  obtain ⟨rfl, h2, h3, h4⟩ := hq
  exact ⟨.inl ⟨.bool true, .bool true, [], rfl, fun _ => rfl, .bool true, post_true l _, fun _ => ⟨List.Pairwise.nil, fun _ hm => (nomatch hm)⟩⟩, h2, h3, h4⟩

/-! ### rules over ANY heap (no ledger) from facts about the written part K: the library's own take a ledger (News) for what they write -/
section
variable {prog : Program} {w : World} {A : Around} {E : Value → Shared → Prop} {s : Shared} {K : Frag}

/-! the whole heap as the ledger: makes every rule that writes through a ledger a rule over any heap -/
def noObjs (h : Heap) : Heap := { h with objs := #[] }
def ledger (h : Heap) (L d : Addr) : List (Addr × Obj) := (List.range h.objs.size).filterMap fun a => if a = L ∨ a = d then none else (h.get? a).map fun o => (a, o)
end
end Att

namespace L2
open PySem PySem.Spec PyProof.Rows

theorem vals_ints : ∀ {vs : List Value} {ns : List Int}, IntsAre vs ns → Vals (ns.map V.int) vs
  | _, _, .nil => .nil
  | _, _, .cons n t h => .cons ⟨t, rfl⟩ (vals_ints h)

/-- nothing is tracked but the script, known to the object (or it is an object of the module) -/
def Only (H : Hp) : Prop := ∀ b, H b = none ∨ ∃ o xs, H b = some (.frz o (.lst xs))

/-- THE HEAD: the law's promise, at the heap behind the top. F, the promise of the law's def, may use that base is part of the heap (so K.In base, base.Ns mainGlobals mg stand in Mod) -/
theorem law_call {P : Program} {w : World} {K : PySem.W.Frag} {mg mb : Str → Option Value} {CX : CXT} {k : Nat} {fa a : Addr} {fd : FuncData} {x : Str} {sp : Sp} {s₁ : Shared} {vs : List Value} {ns : List Int}
    (KX : K.In s₁.heap) (hns : s₁.heap.Ns mainGlobals mg) (hb : s₁.heap.Ns builtinsNs mb) (hbb : ∀ x : Str, x ≠ "__name__" → mb x = bootBuiltins x) (hlim : s₁.heap.NoLimit) (hg : s₁.gens = #[])
    (ha : s₁.heap.get? a = some { cls := .type "list", data := .seq vs.toArray }) (hi : IntsAre vs ns) (hl : ns.length ≤ sizeLine) (hr : Room k callerA)
    (F : ∀ base : Heap, K.In base → base.Ns mainGlobals mg → FnOk P w K mg base CX k fa fd [x] sp) (hbind : ∀ (s : Shared) (u : Value), BindsTo s fd ⟨[u], []⟩ [(x, u)])
    (hsp : ∀ H : Hp, Only H → SqL K H a (ns.map V.int) → sp [.ref a] H (fun v _ => v = .bl true) fun _ _ _ => False)
    (hCX : ∀ H e s', CX [] H s₁ (fun _ _ _ => False) e s' → False) :
    codeAny (model P w) callerA (.call (.ref fa) ⟨[.ref a], []⟩) (fun r s' => r = .ok (.ret (.bool true)) ∧ OldK s₁.heap s'.heap ∧ s'.os = s₁.os ∧ AllBare s'.gens) s₁ := by
  have rv := vals_ints hi
  have lenV := hi.length
  -- from an abstract heap in which nothing but the script may be tracked
  have core : ∀ H : Hp, Only H → SqL K H a (ns.map V.int) → HOk P w H s₁.heap → (∀ b, H b ≠ none → b = a) → (H a ≠ none → K.lookup a = none) →
      codeAny (model P w) callerA (.call (.ref fa) ⟨[.ref a], []⟩) (fun r s' => r = .ok (.ret (.bool true)) ∧ OldK s₁.heap s'.heap ∧ s'.os = s₁.os ∧ AllBare s'.gens) s₁ := by
    intro H hO hS hok hA hK
    have base_of : ∀ {b : Addr} {o : Obj}, s₁.heap.get? b = some o → H b = none → (hidT s₁.heap H).get? b = some o := fun e n => hidT_get e n
    have noA : ∀ {b : Addr} {o : Obj} {es : Array DictEntry} {ep : Nat}, s₁.heap.get? b = some o → o.data = .dict es ep → H b = none := fun {b o es ep} e d => by
      cases q : H b with
      | none => rfl
      | some u =>
        have e' : b = a := hA b (by rw [q]; simp)
        subst e'
        rw [ha] at e; cases e
        have d' : Data.seq vs.toArray _ = Data.dict es ep := d
        cases d'
    have nsK : ∀ {b : Addr} {m : Str → Option Value}, s₁.heap.Ns b m → (hidT s₁.heap H).Ns b m := fun {b m} ⟨o, es, ep, e, d, r⟩ => ⟨o, es, ep, base_of e (noA e d), d, r⟩
    have hKb : K.In (hidT s₁.heap H) := fun b o e => base_of (KX b o e) (by
      cases q : H b with
      | none => rfl
      | some u =>
        have e' : b = a := hA b (by rw [q]; simp)
        subst e'
        rw [hK (by rw [q]; simp)] at e; cases e)
    have hM : Mod K mg (hidT s₁.heap H) := ⟨hKb, nsK hns, ⟨mb, nsK hb, hbb⟩, let ⟨mc, h1, h2⟩ := hlim; ⟨mc, nsK h1, h2⟩⟩
    have e0 : Env0 P w K mg (hidT s₁.heap H) callerA [] s₁ H := ⟨rfl, hM, fun b o e => of_hidT e, Nat.le_of_eq (hidT_size _ _), trivial, fun b hb => absurd (show b ∈ ([] : List Addr) from hb) (by simp), hok, .of_eq hg⟩
    refine codeAny_mono ((F _ hKb (nsK hns)).run callerA [] s₁ H ⟨[.ref a], []⟩ [.ref a] [.ref a] _ _ hr e0 (hbind s₁ (.ref a)) (.cons rfl .nil) (hsp H hO hS)) fun r s' h => ?_
    cases r with
    | error e => exact (hCX H e s' h).elim
    | ok fl =>
      cases fl with
      | next => exact False.elim h
      | brk => exact False.elim h
      | cont => exact False.elim h
      | ret u =>
        obtain ⟨v, H', os, bare, un, hok', r', q⟩ := h
        have q' : v = .bl true := q
        subst q'
        obtain rfl : u = Value.bool true := r'
        refine ⟨rfl, OldK.of_keep fun b o e => ?_, os, bare⟩
        cases q : H b with
        | none => exact un.keep b o e q (by intro z; exact absurd (show b ∈ ([] : List Addr) from z) (by simp)) (by simp)
        | some u =>
          rcases hO b with z | ⟨ob, xs, z⟩
          · rw [q] at z; cases z
          · have z2 := un.frzs b ob _ z
            obtain ⟨e1, _⟩ := hok b _ z
            obtain ⟨e2, _⟩ := hok' b _ z2
            rw [e] at e1; cases e1
            exact e2
  cases hk : K.lookup a with
  | some o =>
    -- the script is one of the module's own objects
    have e := KX a o hk
    rw [ha] at e
    cases e
    refine core (fun _ => none) (fun _ => .inl rfl) (.inr ⟨_, vs.toArray, _, hk, rfl, rfl, rfl, by rw [List.size_toArray, lenV]; exact hl, by simpa using rv⟩) (fun b u z => by have z' : (none : Option HO) = some u := z; cases z') (fun b z => absurd rfl z) fun z => absurd rfl z
  | none =>
    refine core (fun b => if b = a then some (.frz { cls := .type "list", data := .seq vs.toArray } (.lst (ns.map V.int))) else none) (fun b => ?_) (.inl (.inr ⟨{ cls := .type "list", data := .seq vs.toArray }, if_pos rfl⟩)) (fun b u z => ?_) (fun b z => ?_) fun _ => hk
    · by_cases hb : b = a
      · exact .inr ⟨_, _, if_pos hb⟩
      · exact .inl (if_neg hb)
    · by_cases hb : b = a
      · have z' := (if_pos hb).symm.trans z
        cases z'
        subst hb
        exact ⟨ha, by rw [List.length_map]; exact hl, vs, _, rv, ha⟩
      · have z' := (if_neg hb).symm.trans z
        cases z'
    · by_cases hb : b = a
      · exact hb
      · exact absurd (if_neg hb) z
end L2

namespace L2
open PySem PySem.Spec PyProof.Rows

abbrev KOf {K : PySem.W.Frag} {h : Heap} (_ : K.In h) : PySem.W.Frag := K

/-- the goal that k_head leaves (case hc), from the law's promise. F gives the function object fd (K's own) once, then the promise over every base -/
theorem walk_of {l : PySem.W.OpenLaw} {n k : Nat} {q : Program} {loose : List Str} {XP : (Str → Option Value) → Heap → Prop} {YP : World → Heap → Prop} {d : DefRec} {K : Params → PySem.W.Frag} {CX : World → CXT} {sp : World → Sp} {x : Str}
    (hn : l.most = some n) (hn2 : n ≤ sizeLine) (hdf : d.params.defaults = []) (hr : Room k callerA)
    (hY : ∀ (w : World) (h : Heap), YP w h → (K w.params).In h)
    (F : ∀ (w : World) (mg : Str → Option Value) (fa : Addr) (h : Heap), (K w.params).In h → h.Ns mainGlobals mg → mg d.name = some (.ref fa) →
      ∃ fd : FuncData, (∀ (s : Shared) (u : Value), BindsTo s fd ⟨[u], []⟩ [(x, u)]) ∧
        ∀ base : Heap, (K w.params).In base → base.Ns mainGlobals mg → FnOk l.prog w (K w.params) mg base (CX w) k fa fd [x] (sp w))
    (hsp : ∀ (w : World) (H : Hp) (a : Addr) (ns : List Int), ns.length ≤ n → Only H → SqL (K w.params) H a (ns.map V.int) → sp w [.ref a] H (fun v _ => v = .bl true) fun _ _ _ => False)
    (hCX : ∀ (w : World) (H : Hp) (s : Shared) (e : Value) (s' : Shared), CX w [] H s (fun _ _ _ => False) e s' → False) :
    PySem.W.WalkO q loose XP YP l.row.toRowW d [] (fun f vs => PySem.call f vs) := by
  refine Att.attach_call hn hdf fun w s₀ s₁ mg mb fa o pm cd doc a vs ns G Y ho hd hcd hmg hobj hints hlen hg => ?_
  have KX := hY w _ Y
  obtain ⟨fd, hb, hF⟩ := F w mg fa _ KX G.T.g hmg
  exact law_call KX G.T.g G.T.b G.T.builtins G.T.nolimit hg hobj hints (Nat.le_trans hlen hn2) hr hF hb (fun H hO hS => hsp w H a ns hlen hO hS) fun H e s' => hCX w H s₁ e s'
end L2

/- THE LAST THEOREM (shape; LID, My.* are yours):
   My.Adr: a structure of the addresses that your layer names (classes, functions); My.Txt K t: a structure (Prop) of the equations over K;
   My.txt_mk : {K} {implicit addresses ..} (e1 : nsIn K mainGlobals "law" = some (some (.ref f))) (e2 : K.lookup f = some ⟨oc, od, .func (fnOf "law" "law" params body scope dV kV doc pm an cdv ct), sl⟩) (e3 : codeIn K cdv "law" = true) .. : ∃ t, My.Txt K t

set_option maxRecDepth 100000 in
set_option maxHeartbeats 0 in
theorem PySem.Challenge.cw_LID_holds : PySem.Challenge.rw_LID.Holds := by
  w_on; o_law; k_head; (case hw => w_witness2)
  k_fill
  refine L2.walk_of (l := PySem.Challenge.rw_LID) (n := 63) (k := 40) (x := "script") (CX := fun w => ..) (sp := fun _ => My.sp_law) rfl (by decide) rfl ⟨rfl, by decide, by decide⟩ (fun w h Y => PySem.W.kIn_of Y) ?F ?S ?C
  case F =>
    intro w mg fa h KX G hmg
    have T : ∃ t, My.Txt (L2.KOf KX) t := by
      dsimp only [L2.KOf]                          -- K must stand as «<heap const> w.params» for k_is
      refine' My.txt_mk ?e1 ?e2 ?e3 ..
      (case e1 => PySem.W.k_is)                    -- in the order: a name -> its address -> its object -> its parts
      (case e2 => PySem.W.k_is)
      ..
    obtain ⟨t, T⟩ := T
    have e0 := hmg.symm.trans (PySem.W.mg_of KX G T.law)
    cases e0                                       -- fa is the law's own address
    exact ⟨_, fun s u => .of_eq rfl, fun base kb nb => My.law_fn T kb nb⟩     -- if «.of_eq rfl» comes too early: refine' ⟨_, ?b, fun base kb nb => My.law_fn T kb nb⟩; exact fun s u => .of_eq rfl
  case S => exact fun w H a ns hl hO hS => ..
  case C => exact ..
(the tactic k_is has no namespace: write k_is) -/

/-! SHORT WORDS over the layer: a def of the text, its body, what a loop and a test want. -/
namespace L2
open PySem PySem.Spec PyProof.Rows

/-! ### the text by places -/
/-- the j-th statement of a class's body -/
def inClass (s : Stmt) (j : Nat) : Stmt := match s with
  | .ClassDef _ _ _ body _ _ _ _ _ _ _ => body.getD j (.Pass ⟨0, 0, 0, 0⟩)
  | _ => .Pass ⟨0, 0, 0, 0⟩
def defArgs (s : Stmt) : Arguments := match s with
  | .FunctionDef _ a _ _ _ _ _ _ _ _ => a
  | _ => { posonlyargs := [], args := [], vararg := none, kwonlyargs := [], kw_defaults := [], kwarg := none, defaults := [] }
def defBody (s : Stmt) : List Stmt := match s with
  | .FunctionDef _ _ b _ _ _ _ _ _ _ => b
  | _ => []
def defScope (s : Stmt) : Scope := match s with
  | .FunctionDef _ _ _ _ _ _ sc _ _ _ => sc
  | _ => { kind := .function, names := [], isGenerator := false, isCoroutine := false }

/-! ### no exception leaves a def -/
abbrev CX0 : CXT := fun _ _ _ _ _ _ => False
abbrev E0 : XK := fun _ _ _ => False
theorem pass0 {X : Cx} : Passes CX0 X E0 := fun _ _ _ _ _ _ _ h => h.elim

/-! ### a def (or method) of the text as it stands behind the top -/
structure Fun (K : PySem.W.Frag) (x qual : Str) (st : Stmt) (f : Addr) (fd : FuncData) : Prop where
  ex : ∃ (oc : Value) (od : Option Addr) (kV doc pm : Value) (an : Option Addr) (cdv ct : Value) (osl : Array (Option Value)),
    fd = PySem.W.fnOf x qual (defArgs st) (defBody st) (defScope st) .none kV doc pm an cdv ct ∧ K.lookup f = some ⟨oc, od, .func fd, osl⟩ ∧ PySem.W.codeIn K cdv qual = true
  kp : PySem.W.keepIn K (.ref f) = true
section
variable {P : Program} {w : World} {K : PySem.W.Frag} {mg : Str → Option Value} {base : Heap}
/-- THE RULE for a def: its body as a term of rules, and the reading of that term -/
theorem Fun.ok {x qual : Str} {st : Stmt} {f : Addr} {fd : FuncData} {N ps : List Str} {k : Nat} {sp : Sp} (F : Fun K x qual st f fd) (S : FnScope N ps (defScope st)) (len : ∀ vs H Q E, sp vs H Q E → vs.length = ps.length)
    (hbody : ∀ (cdv : Value) (A : Around) (outer : List Env) (s : Shared) (H : Hp) (vs : List V) (Q : VK) (E : XK), Room k (A.deeper (envOfC qual (defScope st) s.heap.objs.size f cdv)) → sp vs H Q E →
      ∃ t, PSs (cxOf CX0 P w K mg base N qual (defScope st) f cdv A outer s H E).nox (defBody st) t ∧ t { nx := fun _ H' => Q .non H', rt := Q } (start N vs) H) : FnOk P w K mg base CX0 (k + 1) f fd ps sp := by
  obtain ⟨oc, od, kV, doc, pm, an, cdv, ct, osl, rfl, lk, hcd⟩ := F.ex
  refine fn_of lk hcd S len fun A outer s H vs Q E hr hsp => ?_
  obtain ⟨t, h, q⟩ := hbody cdv A outer s H vs Q E hr hsp
  exact ⟨t, h.nox, q⟩
/-- how its arguments bind (no defaults): h is «fun _ _ _ _ _ _ us hl => match us, hl with | [_, _], _ => rfl», one _ a parameter -/
theorem Fun.binds {x qual : Str} {st : Stmt} {f : Addr} {fd : FuncData} {ps : List Str} (F : Fun K x qual st f fd)
    (h : ∀ (kV doc pm : Value) (an : Option Addr) (cdv ct : Value) (us : List Value), us.length = ps.length → bindArgs (PySem.W.fnOf x qual (defArgs st) (defBody st) (defScope st) .none kV doc pm an cdv ct) ⟨us, []⟩ = pure (ps.zip us)) : Binds K fd ps [] := by
  obtain ⟨oc, od, kV, doc, pm, an, cdv, ct, osl, rfl, lk, hcd⟩ := F.ex
  exact .all (h kV doc pm an cdv ct)
theorem fun_mk {x qual : Str} {st : Stmt} {f : Addr} {oc : Value} {od an : Option Addr} {osl : Array (Option Value)} {kV doc pm cdv ct : Value} (l : K.lookup f = some ⟨oc, od, .func (PySem.W.fnOf x qual (defArgs st) (defBody st) (defScope st) .none kV doc pm an cdv ct), osl⟩)
    (c : PySem.W.codeIn K cdv qual = true) (k : PySem.W.keepIn K (.ref f) = true) : Fun K x qual st f (PySem.W.fnOf x qual (defArgs st) (defBody st) (defScope st) .none kV doc pm an cdv ct) := ⟨⟨oc, od, kV, doc, pm, an, cdv, ct, osl, rfl, l, c⟩, k⟩
end
theorem hu_of {A : Around} {k : Nat} (hr : Room k A) : A.units + 1 < cLine := Nat.lt_of_le_of_lt (Nat.add_le_add_left (by decide : 1 ≤ 64) _) hr.units
theorem small1000 {n : Nat} (h : n ≤ 1000) : n < sizeLine := Nat.lt_of_le_of_lt h (by decide)

/-! ### expressions in short: the name that stands in the i-th slot -/
section
variable {X : Cx}
theorem pv (i : Nat) {x : Str} {pos : Pos} (hN : X.N[i]? = some x := by rfl) (hv : Vis X.env.scope x := by first | exact Or.inl rfl | exact Or.inr (Or.inl rfl) | exact Or.inr (Or.inr rfl)) (hd : (x == ("__debug__" : Str)) = false := by decide)
    (hcd : (x == ("__classdict__" : Str)) = false := by decide) : PE X (.Name x pos) (tVar i) := pe_var hN hv hd hcd
end

/-! ### tests -/
theorem iteT {A B : Prop} (h : A) : if true = true then A else B := by
  rw [if_pos rfl]
  exact h
theorem ite2 {c A B : Prop} [Decidable c] (h1 : c → A) (h2 : ¬ c → B) : if c then A else B := by
  by_cases h : c
  · rw [if_pos h]
    exact h1 h
  · rw [if_neg h]
    exact h2 h
/-! ### heaps -/
/-- all that was tracked is as it was -/
def Same (H H' : Hp) : Prop := ∀ b o, H b = some o → H' b = some o
theorem Same.refl (H : Hp) : Same H H := fun _ _ h => h
theorem Same.trans {H H1 H2 : Hp} (a : Same H H1) (b : Same H1 H2) : Same H H2 := fun c o h => b c o (a c o h)
theorem Same.free {H H' : Hp} (e : Same H H') {l : Addr} (h : H' l = Option.none) : H l = Option.none := by
  cases q : H l with
  | none => rfl
  | some o =>
    rw [e l o q] at h
    cases h
theorem Same.seq {K : PySem.W.Frag} {H H' : Hp} {a : Addr} {xs : List V} (e : Same H H') (h : SqL K H a xs) : SqL K H' a xs := by
  rcases h with (h | ⟨o, h⟩) | h
  · exact .inl (.inl (e _ _ h))
  · exact .inl (.inr ⟨o, e _ _ h⟩)
  · exact .inr h

end L2

/-! Own rules beside the hand layer: // and * of great numbers, isinstance, a cut behind a statement. -/
namespace L2
open PySem PySem.Spec PyProof.Rows
section
variable {X : Cx}
theorem op_fdivP : OpR X (binaryOp .FloorDiv) (rI (fun _ j => 0 < j ∧ j.natAbs.log2 < 9000) fun i j => .int (i / j)) := opI fun i j _ _ _ _ _ hc q => by
  have h1 : (0 : Int) < j := hc.1
  exact floordiv_int (by omega) (by rw [Int.fdiv_eq_ediv_of_nonneg i (by omega)]; exact q) (.inl (PyProof.noPylong_of_log2 hc.2))
theorem op_mulG : OpR X (binaryOp .Mult) (rI IntMulOk fun i j => .int (i * j)) := opI fun _ _ _ _ _ _ _ hc q => mul_int q hc
theorem mulR {i j : Int} (h1 : -(2 ^ 64) < j) (h2 : j < 2 ^ 64) : IntMulOk i j := .of_right (intBits_le_64 h1 h2)
theorem mulL {i j : Int} (h1 : -(2 ^ 64) < i) (h2 : i < 2 ^ 64) : IntMulOk i j := .of_left (intBits_le_64 h1 h2)
theorem log_lt {j : Int} (m : Nat) (h0 : j ≠ 0) (h : j.natAbs < 2 ^ m) (hm : m ≤ 9000 := by decide) : j.natAbs.log2 < 9000 :=
  Nat.lt_of_lt_of_le ((Nat.log2_lt (by omega)).mpr h) hm

theorem boot_int : bootBuiltins "int" = some (.type "int") := by decide +kernel
theorem boot_bool : bootBuiltins "bool" = some (.type "bool") := by decide +kernel
theorem boot_list : bootBuiltins "list" = some (.type "list") := by decide +kernel
theorem boot_tuple : bootBuiltins "tuple" = some (.type "tuple") := by decide +kernel

theorem kit_int_bool (K : PySem.W.Frag) : PySem.W.kitOne K (.type "int") (.type "bool") = some false := by first | rfl | kernel_rfl
/-- an exception that was caught, by its class -/
def ExcIs (a : Addr) (c : Value) (h : Heap) : Prop := ∃ oe vs, h.get? a = some oe ∧ oe.cls = c ∧ oe.data = .fields vs
def excO (a : Addr) (c : Value) : HO := .ext (ExcIs a c)
/-- what isinstance asks of an exception's class -/
structure ExcCls (K : PySem.W.Frag) (c : Value) : Prop where
  kit : ∀ a : Addr, PySem.W.KitX K (.ref a) c (ExcIs a c)
/-- the type of a value, exceptions too -/
inductive TyX (K : PySem.W.Frag) (H : Hp) : V → Value → Prop where
  | of {x : V} {t : Value} (h : TyOf K H x t) : TyX K H x t
  | exc {a : Addr} {c : Value} (h : H a = some (excO a c)) (k : ExcCls K c) : TyX K H (.ref a) c
def clsV : V → Option Value
  | .ty n => some (.type n)
  | .ref c => some (.ref c)
  | _ => none
/-- isinstance(x, c), c a class -/
def rIsi (K : PySem.W.Frag) : List V → Hp → VK → Prop := fun xs H Q => ∃ x c t cv b, xs = [x, c] ∧ clsV c = some cv ∧ TyX K H x t ∧ PySem.W.kitOne K t cv = some b ∧ Q (.bl b) H
/-- raise C(..): the exception's class, the heap as it is -/
def tRaise (C : Value) (E : XK) : TS := fun _ _ H => E C none H
/-- a call within a try: what is wanted of an exception hangs on the names' values -/
def tCallS (sp : Sp) (dvs : List V) (E : St → XK) (t : TA) : TE := fun σ H Q => t σ H fun vs H1 => sp (vs ++ dvs) H1 Q (E σ)
/-- try: .. except D as x: .. -/
def tTry (K : PySem.W.Frag) (tb : (St → XK) → TS) (D : Value) (i : Nat) (th : TS) : TS := fun d σ H =>
  tb (fun σ' c _ H' => ExcCls K c ∧ PySem.W.subIn K c D = some true ∧ ∀ a, H' a = none → th { d with nx := fun σ2 H2 => d.nx (σ2.set i none) H2, bk := fun σ2 H2 => d.bk (σ2.set i none) H2, ct := fun σ2 H2 => d.ct (σ2.set i none) H2 } (σ'.set i (some (.ref a))) (upd H' a (excO a c))) d σ H
theorem isi_int_int {K : PySem.W.Frag} {H : Hp} {Q : VK} {i : Int} (q : Q (.bl true) H) : rIsi K [.int i, .ty "int"] H Q := ⟨_, _, _, _, true, rfl, rfl, .of (.int i), rfl, q⟩
theorem isi_int_bool {K : PySem.W.Frag} {H : Hp} {Q : VK} {i : Int} (q : Q (.bl false) H) : rIsi K [.int i, .ty "bool"] H Q := ⟨_, _, _, _, false, rfl, rfl, .of (.int i), kit_int_bool K, q⟩
theorem isi_tup_tup {K : PySem.W.Frag} {H : Hp} {Q : VK} {r : Addr} {xs : List V} (h : H r = some (.tup xs)) (q : Q (.bl true) H) : rIsi K [.ref r, .ty "tuple"] H Q := ⟨_, _, _, _, true, rfl, rfl, .of (.tup h), rfl, q⟩
theorem clsV_rel {c : V} {u cv : Value} (r : RelV c u) (h : clsV c = some cv) : u = cv := by
  cases c with
  | ty n => cases r; exact Option.some.inj h
  | ref a => cases r; exact Option.some.inj h
  | _ => cases h
theorem call_isinst : CallR X (.builtin "isinstance") (rIsi X.K) := by
  intro pins s σ H xs us Q I r h
  obtain ⟨x, c, t, cv, b, rfl, hc, ty, e, q⟩ := h
  obtain ⟨u, w', rfl, rx, rw'⟩ := vals2 r
  obtain rfl := clsV_rel rw' hc
  cases ty with
  | of ty => exact isinst_ok I rx ty e fun tk => ⟨.bl b, H, I.tok tk, rfl, q⟩
  | @exc a c h k =>
    cases (show u = Value.ref a from rx)
    obtain ⟨p, _, _⟩ := (show ObjOk X.prog X.w H s.heap a (excO a t) from I.hok a _ h)
    exact PySem.W.kia_one (k.kit a) I.kIn p e (fun z => nomatch z) fun tk => ⟨.bl b, H, I.tok tk, rfl, q⟩
/-! ### tuples of ints compared -/
def rEqT (K : PySem.W.Frag) : R2 := fun x y H Q => ∃ (a b : Addr) (ns ms : List Int), x = .ref a ∧ y = .ref b ∧ SqT K H a (ns.map V.int) ∧ SqT K H b (ms.map V.int) ∧ Q (.bl (decide (ns = ms))) H
def rNeT (K : PySem.W.Frag) : R2 := fun x y H Q => ∃ (a b : Addr) (ns ms : List Int), x = .ref a ∧ y = .ref b ∧ SqT K H a (ns.map V.int) ∧ SqT K H b (ms.map V.int) ∧ Q (.bl (!decide (ns = ms))) H
theorem getD_at {l : List Int} {j : Nat} (h : j < l.length) : l.getD j 0 = l[j] := by
  rw [List.getD_eq_getElem?_getD, List.getElem?_eq_getElem h]
  rfl
/-! ### xs.count(x), xs.index(x) of flat things -/
def rCount (K : PySem.W.Frag) : V → List V → Hp → VK → Prop := fun x vs H Q => ∃ l xs y, x = .ref l ∧ vs = [y] ∧ SqL K H l xs ∧ flatV y = true ∧ xs.all flatV = true ∧ Q (.int ((xs.countP fun z => eqV z y : Nat) : Int)) H
def rIndex (K : PySem.W.Frag) : V → List V → Hp → VK → Prop := fun x vs H Q => ∃ l xs y j, x = .ref l ∧ vs = [y] ∧ SqL K H l xs ∧ flatV y = true ∧ xs.all flatV = true ∧ xs.findIdx? (fun z => eqV z y) = some j ∧ j < 1000000 ∧ Q (.int (j : Nat)) H
/-- a truth -/
def tTru (K : PySem.W.Frag) (ta : TE) : TT := fun σ H Q => ta σ H fun x H' => ∃ k, TruV K x H' k ∧ Q k H'
/-- a cut behind a statement: its end is said once -/
def tCut (t : TS) : TS := fun D σ H => ∃ R : St → Hp → Prop, t { D with nx := R } σ H ∧ ∀ σ' H', R σ' H' → D.nx σ' H'
theorem ps_cut {st : Stmt} {t : TS} (h : PS X st t) : PS X st (tCut t) := by
  intro pins s σ H D I hw
  obtain ⟨R, hw, hR⟩ := hw
  refine thn (h pins s σ H _ I hw) fun f s' q => ?_
  cases f with
  | next => obtain ⟨σ', H', I', q⟩ := q; exact ⟨σ', H', I', hR _ _ q⟩
  | brk => exact q
  | cont => exact q
  | ret u => exact q
end
theorem same_new {H : Hp} {p : Addr} (h : H p = none) (o : HO) : Same H (upd H p o) := fun b u q => by rw [upd_ne (ne_of_none q h)]; exact q
theorem Same.add {H0 H : Hp} {p : Addr} {o : HO} (s : Same H0 H) (h : H p = none) : Same H0 (upd H p o) := s.trans (same_new h o)
theorem Same.put {H0 H : Hp} {p : Addr} {o : HO} (s : Same H0 H) (h : H0 p = none) : Same H0 (upd H p o) := fun b u q => by rw [upd_ne (ne_of_none q h)]; exact s _ _ q
theorem truV_int {K : PySem.W.Frag} {i : Int} {H : Hp} {k : Bool} : TruV K (.int i) H k = (k = (i != 0)) := rfl
theorem truV_bl {K : PySem.W.Frag} {i : Bool} {H : Hp} {k : Bool} : TruV K (.bl i) H k = (k = i) := rfl
theorem scal_int (a b : Int) : scal (.int a) (.int b) = true := rfl
theorem scal_bl (a b : Bool) : scal (.bl a) (.bl b) = true := rfl
theorem Same.tup {K : PySem.W.Frag} {H H' : Hp} {a : Addr} {xs : List V} (e : Same H H') (h : SqT K H a xs) : SqT K H' a xs := by
  rcases h with (h | ⟨o, h⟩) | h
  · exact .inl (.inl (e _ _ h))
  · exact .inl (.inr ⟨o, e _ _ h⟩)
  · exact .inr h
theorem at_int {ns : List Int} {k : Int} (h0 : 0 ≤ k) (h : k < (ns.length : Int)) : ∃ v : Int, atI (ns.map V.int) k = some (.int v) ∧ ns[k.toNat]? = some v := by
  have hk : k.toNat < ns.length := by omega
  have ek : k = ((k.toNat : Nat) : Int) := by omega
  have q : atI (ns.map V.int) ((k.toNat : Nat) : Int) = some (.int ns[k.toNat]) := atI_nat (by rw [List.getElem?_map, List.getElem?_eq_getElem hk] <;> rfl)
  rw [← ek] at q
  exact ⟨ns[k.toNat], q, List.getElem?_eq_getElem hk⟩
/-- a loop over what J yields, folded -/
def ForIt (J : It) (g : TG) (tb : TS) : TS := fun D σ H => ∃ W : Nat → Nat → St → Hp → Prop, (∃ m, W 0 m σ H) ∧ ∀ i m σ H, W i m σ H →
  (J.stop i H ∧ D.nx σ H) ∨ (J.go i H ∧ ∃ N : St → Hp → Prop, (∀ σ' H', N σ' H' → ∃ m', m' < m ∧ W (i + 1) m' σ' H') ∧ ∀ x H', J.yld i H x H' → g x σ H' fun σ2 H2 => tb { D with nx := N, ct := N, bk := D.nx } σ2 H2)
theorem tFor_eq {wi : TI} {g : TG} {tb : TS} {D : Ends} {σ : St} {H : Hp} : tFor wi g tb D σ H = wi σ H fun J H1 => ForIt J g tb D σ H1 := rfl
theorem for_rangeF {lo : Int} {n : Nat} {g : TG} {tb : TS} {D : Ends} {σ : St} {H : Hp} (Pv : Nat → St → Hp → Prop) (h0 : Pv 0 σ H)
    (hs : ∀ i σ H, i < n → Pv i σ H → g (.int (lo + i)) σ H fun σ2 H2 => tb { D with nx := Pv (i + 1), ct := Pv (i + 1), bk := D.nx } σ2 H2) (hd : ∀ σ H, Pv n σ H → D.nx σ H) : ForIt (Itr lo n) g tb D σ H := for_range Pv h0 hs hd
theorem for_listF {K : PySem.W.Frag} {a : Addr} {xs : List V} {g : TG} {tb : TS} {D : Ends} {σ : St} {H : Hp} (Pv : Nat → St → Hp → Prop) (h0 : Pv 0 σ H) (hl : ∀ i σ H, i ≤ xs.length → Pv i σ H → SqL K H a xs)
    (hs : ∀ i x σ H, xs[i]? = some x → Pv i σ H → g x σ H fun σ2 H2 => tb { D with nx := Pv (i + 1), ct := Pv (i + 1), bk := D.nx } σ2 H2) (hd : ∀ σ H, Pv xs.length σ H → D.nx σ H) : ForIt (Itl K a) g tb D σ H := for_list Pv h0 hl hs hd
end L2

/-! Own rules beside the hand layer: an own exception raised, passed on by a def, caught. -/
namespace L2
open PySem PySem.Spec PyProof.Rows
section
variable {P : Program} {w : World}
theorem ObjOk.there {H : Hp} {h : Heap} {a : Addr} {o : HO} (x : ObjOk P w H h a o) : ∃ ob, h.get? a = some ob := by
  cases o with
  | lst xs => obtain ⟨_, _, _, _, e⟩ := x; exact ⟨_, e⟩
  | tup xs => obtain ⟨_, _, _, ob, e, _⟩ := x; exact ⟨ob, e⟩
  | dK kvs => obtain ⟨_, _, _, _, ob, _, _, e, _⟩ := x; exact ⟨ob, e⟩
  | dT kvs => obtain ⟨_, _, _, _, ob, _, _, e, _⟩ := x; exact ⟨ob, e⟩
  | set S n => obtain ⟨ob, _, _, _, e, _⟩ := x; exact ⟨ob, e⟩
  | ins C dx fs => obtain ⟨_, _, _, e, _⟩ := x; exact ⟨_, e⟩
  | own y => exact x
  | xd fs => obtain ⟨_, ⟨ob, _, _, e, _⟩, _⟩ := x; exact ⟨ob, e⟩
  | rng lo hi => obtain ⟨_, _, _, e⟩ := x; exact ⟨_, e⟩
  | frz ob u => obtain ⟨e, _⟩ := x; exact ⟨ob, e⟩
  | tbl ps => exact ⟨_, (show h.get? a = some _ from x)⟩
  | met f y => exact ⟨_, (show h.get? a = some _ from x)⟩
  | ext φ => obtain ⟨_, ⟨ob, e⟩, _⟩ := x; exact ⟨ob, e⟩
/-- how an exception lies behind a call: outside the frames and its own records all is as the heap B has it -/
structure ExcAt (P : Program) (w : World) (outer : List Env) (H : Hp) (s : Shared) (E : XK) (ea : Addr) (s' : Shared) (B : Heap) (cls a0 : Value) (H' : Hp) : Prop where
  os : s'.os = s.os
  bare : AllBare s'.gens
  un : Un (frs outer) [] H H' s.heap s'.heap
  hokB : HOk P w H' B
  fly : Heap.FlyingW B outer ea cls a0 s'.heap
  cov : ∀ b o, s.heap.get? b = some o → H b = none → b ∉ frs outer → B.get? b = some o
  covT : ∀ b o, s.heap.get? b = some o → b ∉ frs outer → ∃ o', B.get? b = some o'
  new : s.heap.get? ea = none
  free : H' ea = none
  want : E cls none H'
def CXE (P : Program) (w : World) : CXT := fun outer H s E e s' => ∃ (ea : Addr) (B : Heap) (cls a0 : Value) (H' : Hp), e = .ref ea ∧ ExcAt P w outer H s E ea s' B cls a0 H'

end

/-! ### a def's body: an exception of a callee passes, one is raised -/
section
variable {P : Program} {w : World} {K : PySem.W.Frag} {mg : Str → Option Value} {base : Heap} {N : List Str} {qual : Str} {scope : Scope} {f : Addr} {cd : Value} {A : Around} {outer : List Env} {s₀ : Shared} {H₀ : Hp} {E : XK}
end
/-- an exception that is raised here reaches what this body wants of exceptions -/
def Throws (X : Cx) (C : Addr) (E : XK) : Prop := ∀ (pins : List (Addr × Obj)) (σ : St) (H : Hp) (s : Shared) (ea : Addr) (h' : Heap) (args : List Value), Inv X pins σ H s → Heap.MadeExcOf s.heap h' ea (.ref C) args → E (.ref C) none H → X.xe (.ref ea) { s with heap := h' }
section
variable {P : Program} {w : World} {K : PySem.W.Frag} {mg : Str → Option Value} {base : Heap} {N : List Str} {qual : Str} {scope : Scope} {f : Addr} {cd : Value} {A : Around} {outer : List Env} {s₀ : Shared} {H₀ : Hp} {E : XK}
end
/-- an own exception class under ValueError, as the top has made it -/
abbrev veMro : List Value := [.type "ValueError", .type "Exception", .type "BaseException", .type "object"]
def OwnExc (h : Heap) (C : Addr) : Prop := ∃ bm N nm q bs hdct sn sub ab col dd k0 k1 k2 k3 k5 mN, h.get? C = some (excClassObj nm q C N bs bm hdct sn sub ab col dd k0 k1 k2 k3 k5 "ValueError.__new__") ∧ h.Ns N mN ∧ mN "__init__" = none ∧ OwnTail h veMro bm
/-! ### a call within a try -/
section
variable {X : Cx} {CX : CXT} {k : Nat} {f : Addr} {fd : FuncData} {ps : List Str} {sp : Sp} {dvs : List V} {ds : List Value} {E : St → XK} {x : Str} {p pos : Pos} {e : Expr} {es : List Expr} {t : TA}
def PassesS (CX : CXT) (X : Cx) (E : St → XK) : Prop := ∀ (pins : List (Addr × Obj)) (σ : St) (H : Hp) (s : Shared) (e : Value) (s' : Shared), Inv X pins σ H s → CX X.stack H s (E σ) e s' → X.xe e s'
end

/-! ### try .. except D as x -/
/-- the context of a try's suite: the pins stay, an exception lies as a call has left it -/
def Cx.inTry (X : Cx) (pins : List (Addr × Obj)) (E : St → XK) : Cx := { X with
  pn := X.pn ++ pins
  xe := fun e s' => ∃ pins' σ H s, Inv { X with pn := X.pn ++ pins } pins' σ H s ∧ CXE X.prog X.w X.stack H s (E σ) e s' }
/-- an object that was not tracked, and that the entry did not know, is tracked -/
theorem Inv.track {X : Cx} {pins : List (Addr × Obj)} {σ : St} {H : Hp} {s : Shared} {a : Addr} {o : HO} (I : Inv X pins σ H s) (hn : H a = none) (h0 : X.s₀.heap.get? a = none) (hL : a ≠ X.env.locals) (hc : ∀ x c, X.env.cells.lookup x = some c → c ≠ a)
    (hp : ∀ p ∈ X.pn ++ pins, p.1 ≠ a) (new : ObjOk X.prog X.w (upd H a o) s.heap a o) : Inv X pins σ (upd H a o) s := by
  refine ⟨I.ok, I.os, I.bare, ⟨I.base.keep, I.base.slot, fun b u q n hx => ?_, I.base.there, fun b xs q => ?_, fun b u xs q => ?_, fun b ps q => ?_⟩, I.loc, I.cell, ?_, fun x c e => ?_, fun p q => ?_, fun b u e => ?_, I.len⟩
  · have nb : b ≠ a := fun z => by rw [z, h0] at q; cases q
    rw [upd_ne nb]
    exact I.base.free b u q n hx
  · have q2 := I.base.tups b xs q
    rw [upd_ne (ne_of_none q2 hn)]
    exact q2
  · have q2 := I.base.frzs b u xs q
    rw [upd_ne (ne_of_none q2 hn)]
    exact q2
  · obtain ⟨m, q2⟩ := I.base.tbls b ps q
    exact ⟨m, by rw [upd_ne (ne_of_none q2 hn)]; exact q2⟩
  · rw [upd_ne hL.symm]
    exact I.free
  · rw [upd_ne (hc x c e)]
    exact I.freeC x c e
  · obtain ⟨e, n, r⟩ := I.pin p q
    exact ⟨e, by rw [upd_ne (hp p q)]; exact n, r⟩
  · by_cases hb : b = a
    · subst hb
      rw [upd_same] at e
      cases e
      exact new
    · rw [upd_ne hb] at e
      exact (I.hok b u e).stay (fun c v _ q => q) (fun c q => by rw [upd_ne (ne_of_none q hn)]; exact q) fun c xs q => by rw [upd_ne (ne_of_none q hn)]; exact q
/-- the context of an except suite -/
def Cx.inExc (X : Cx) (ea : Addr) : Cx := { X with A := X.A.mark (some (.ref ea)), calm := false }
/-! ### isinstance of a caught exception -/
/-- what the kit must say of an own exception class -/
structure ExcKit (K : PySem.W.Frag) (C : Addr) : Prop where
  ga : PySem.W.findIn K (.ref C) "__getattribute__" = some (some (.builtin "BaseException.__getattribute__"))
  gn : PySem.W.findIn K (.ref C) "__getattr__" = some none
  cl : PySem.W.findIn K (.ref C) "__class__" = some (some (.builtin "object.__class__"))
  mb : PySem.W.mroIn K C (.type "BaseException") = some true
  mo : PySem.W.mroIn K C (.type "object") = some true
  ok : PySem.W.excIn K C veMro "ValueError.__new__" = true
section
open Builtin Builtin.ObjectAttr Builtin.Getset_descriptor PySem.W
variable {K : PySem.W.Frag} {prog : Program} {w : World} {A : Around} {E : Value → Shared → Prop} {h : Heap} {g : Array GenState} {d : Drawn} {t : Nat} {os : OsState} {a C : Addr} {o : Obj}
end
end L2

/-! Own rules beside the hand layer: a list comprehension of one clause. Behind MyExc. -/
namespace L2
open PySem PySem.Spec PyProof.Rows
theorem cellOf_ok {env : Env} {x : Str} {c : Addr} (h : env.cells.lookup x = some c) : cellOf env x = pure c := by
  unfold cellOf
  rw [h]
theorem closure_go {env : Env} : ∀ (l : List (Str × NameKind)) (cs : List (Str × Addr)), (∀ y ∈ l, y.2 = .free → ∃ c, env.cells.lookup y.1 = some c) → (∀ x c, cs.lookup x = some c → env.cells.lookup x = some c) →
    ∃ cl, (forIn l cs fun (y : Str × NameKind) r => (if (y.2 == .free) = true then do let c ← cellOf env y.1; pure (ForInStep.yield ((y.1, c) :: r)) else pure (ForInStep.yield r) : Sem (ForInStep (List (Str × Addr))))) = pure cl ∧
      (∀ x c, cl.lookup x = some c → env.cells.lookup x = some c) ∧ (∀ y ∈ l, y.2 = .free → ∃ c, cl.lookup y.1 = some c) ∧ ∀ x, (∃ c, cs.lookup x = some c) → ∃ c, cl.lookup x = some c
  | [], cs, _, hc => ⟨cs, by simp, hc, by simp, fun _ h => h⟩
  | y :: l, cs, hf, hc => by
    have hf' : ∀ z ∈ l, z.2 = .free → ∃ c, env.cells.lookup z.1 = some c := fun z hz => hf z (List.mem_cons_of_mem _ hz)
    by_cases hy : y.2 = .free
    · obtain ⟨c, e⟩ := hf y List.mem_cons_self hy
      have hc' : ∀ x d, List.lookup x ((y.1, c) :: cs) = some d → env.cells.lookup x = some d := fun x d q => by
        rw [List.lookup_cons] at q
        split at q
        · rename_i b
          cases q
          rw [beq_iff_eq.mp b, e]
        · exact hc x d q
      obtain ⟨cl, e1, e2, e3, e4⟩ := closure_go l ((y.1, c) :: cs) hf' hc'
      refine ⟨cl, ?_, e2, fun z hz q => ?_, fun x ⟨d, q⟩ => e4 x ?_⟩
      · rw [List.forIn_cons, if_pos (by rw [hy]; rfl), cellOf_ok e]
        simpa using e1
      · rcases List.mem_cons.mp hz with r | r
        · exact e4 z.1 ⟨c, by rw [r, List.lookup_cons]; simp⟩
        · exact e3 z r q
      · rw [List.lookup_cons]
        split
        · exact ⟨_, rfl⟩
        · exact ⟨d, q⟩
    · obtain ⟨cl, e1, e2, e3, e4⟩ := closure_go l cs hf' hc
      refine ⟨cl, ?_, e2, fun z hz q => ?_, e4⟩
      · rw [List.forIn_cons, if_neg (by simpa using hy)]
        simpa using e1
      · rcases List.mem_cons.mp hz with r | r
        · rw [r] at q; exact absurd q hy
        · exact e3 z r q
theorem closure_ok {scope : Scope} {env : Env} (h : ∀ y ∈ scope.names, y.2 = .free → ∃ c, env.cells.lookup y.1 = some c) :
    ∃ cl, closureFor scope env = pure cl ∧ (∀ x c, cl.lookup x = some c → env.cells.lookup x = some c) ∧ ∀ y ∈ scope.names, y.2 = .free → ∃ c, cl.lookup y.1 = some c := by
  obtain ⟨cl, e1, e2, e3, _⟩ := closure_go scope.names [] h (by simp)
  refine ⟨cl, ?_, e2, e3⟩
  unfold closureFor
  simp only [bind_pure]
  exact e1

/-- one clause, any target, any tests: the loop by an invariant and a measure -/
theorem compLoop_any {P : Program} {w : World} {A : Around} {R : Result → Shared → Prop} {s : Shared} {elt target iter : Expr} {ifs : List Expr} {scope : Scope} {pos : Pos} {it acc : Value} {env : Env} {Z : Value → Shared → Prop} (J : Nat → Shared → Prop)
    (hZ : Z = notedBy (model P w) A env fun e s' => R (.error e) s')
    (turn : ∀ n s, J n s → wpAny (model P w) A (pyNext it) (fun r s1 => match r with
      | none => R (.ok .next) s1
      | some v => wpAny (model P w) A (letOwnedTupleGo target it v) (fun _ s2 => wpAny (model P w) A (assign target env v) (fun _ s3 =>
          wpAny (model P w) A (forIn ifs true fun c r => if r = true then do let ok ← isTrue c env (eval c env); pure (ForInStep.yield ok) else pure (ForInStep.yield r)) (fun ok s4 =>
            if ok = true then wpAny (model P w) A (eval elt env) (fun x s5 => wpAny (model P w) A (call (.builtin "list.append") [acc, x]) (fun _ s6 => ∃ m, m < n ∧ J m s6) Z s5) Z s4
            else ∃ m, m < n ∧ J m s4) Z s3) Z s2) Z s1) Z s)
    (n : Nat) (h : J n s) : codeAny (model P w) A (.compLoop (.ListComp elt [⟨target, iter, ifs, 0⟩] scope pos) 0 it acc env) R s := by
  subst hZ
  refine codeAny_loop rfl J (fun n s hJ => ?_) n h
  show wpAny _ _ (Sem.onRaise (compTurn (.ListComp elt [⟨target, iter, ifs, 0⟩] scope pos) 0 it acc env) fun x => do noteFrame x env; theTreesLotGoes x) _ _ s
  refine wpAny_noted ?_
  rw [compTurn_list]
  refine wpAny_bind (wpAny_standAt (wpAny_bind (thn (turn n s hJ) fun r s1 h1 => ?_)))
  cases r with
  | none => exact wpAny_pure h1
  | some v =>
    refine wpAny_bind (thn h1 fun _ s2 h2 => wpAny_bind (thn h2 fun _ s3 h3 => wpAny_bind (thn h3 fun ok s4 h4 => ?_)))
    cases ok with
    | false => exact wpAny_pure ⟨rfl, h4⟩
    | true => exact wpAny_bind (wpAny_bind (thn h4 fun x s5 h5 => wpAny_bind (thn h5 fun _ s6 h6 => wpAny_pure (wpAny_pure ⟨rfl, h6⟩))))
/-- a comprehension's tests -/
def PTs (X : Cx) (ifs : List Expr) (t : TT) : Prop := ∀ (pins : List (Addr × Obj)) (s : Shared) (σ : St) (H : Hp) (Q : Bool → Hp → Prop), Inv X pins σ H s → t σ H Q →
  wpAny (model X.prog X.w) X.A (forIn ifs true fun c r => if r = true then do let ok ← isTrue c X.env (eval c X.env); pure (ForInStep.yield ok) else pure (ForInStep.yield r)) (TP X pins σ Q) X.xe s
def tNoTest : TT := fun _ H Q => Q true H
theorem pts_nil {X : Cx} : PTs X [] tNoTest := fun _ _ _ H _ I h => wpAny_tests_nil ⟨H, I, h⟩
theorem pts_one {X : Cx} {c : Expr} {t : TT} (h : PT X c t) : PTs X [c] t := fun pins s σ H Q I q => wpAny_tests_one (h pins s σ H Q I q)
/-- the captured names' values -/
def capS (cap : List (Option Nat)) (σ : St) : St := cap.map fun o => o.bind fun j => (σ[j]?).join
def tComp (wi : TI) (g : TG) (tt : TT) (te : TE) (cap : List (Option Nat)) : TE := fun σ H Q => wi σ H fun J H1 => ∀ D, H1 D = none → ∃ W : Nat → Nat → St → Hp → Prop, (∃ m, W 0 m (capS cap σ) (upd H1 D (.lst []))) ∧ ∀ i m σc Hc, W i m σc Hc →
  (J.stop i Hc ∧ Q (.ref D) Hc) ∨ (J.go i Hc ∧ ∃ N : St → Hp → Prop, (∀ σ' H', N σ' H' → ∃ m', m' < m ∧ W (i + 1) m' σ' H') ∧ ∀ x H', J.yld i Hc x H' → g x σc H' fun σ2 H2 => tt σ2 H2 fun b H3 => if b = true then te σ2 H3 fun y H4 => rAppend (.ref D) [y] H4 fun _ H5 => N σ2 H5 else N σ2 H3)
/-- the context of a comprehension's block -/
def Cx.blk (X : Cx) (Nc : List Str) (scope : Scope) (cl : List (Str × Addr)) (s : Shared) (H : Hp) (fp : List Addr) : Cx := { X with
  N := Nc, s₀ := s, H₀ := H, env := compEnvC scope cl s.heap.objs.size X.env, outer := X.stack, stack := X.stack, ex := fp, fn := fun _ => false, pn := [], xe := fun _ _ => False }
/-- what is to be seen of a comprehension's names -/
structure BlkOk (sc : Scope) (N Nc : List Str) (cap : List (Option Nat)) (scope : Scope) : Prop where
  kind : scope.kind = .function
  nocell : ∀ y ∈ scope.names, y.2 ≠ .cell
  free : ∀ y ∈ scope.names, y.2 = .free → sc.names.lookup y.1 = some .cell ∨ sc.names.lookup y.1 = some .free
  once : ∀ y ∈ scope.names, scope.names.lookup y.1 = some y.2
  nd : Nc.Nodup
  len : cap.length = Nc.length
  cap : ∀ (i : Nat) (y : Str) (j : Nat), Nc[i]? = some y → cap[i]? = some (some j) → N[j]? = some y ∧ scope.names.lookup y = some .free
def blkChk (sc : Scope) (N Nc : List Str) (cap : List (Option Nat)) (scope : Scope) : Bool :=
  scope.kind == .function && scope.names.all (fun y => y.2 != .cell && scope.names.lookup y.1 == some y.2 && (y.2 != .free || sc.names.lookup y.1 == some .cell || sc.names.lookup y.1 == some .free)) && decide Nc.Nodup && cap.length == Nc.length
    && (Nc.zip cap).all fun p => p.2.all fun j => N[j]? == some p.1 && scope.names.lookup p.1 == some .free
theorem BlkOk.of {sc : Scope} {N Nc : List Str} {cap : List (Option Nat)} {scope : Scope} (h : blkChk sc N Nc cap scope = true) : BlkOk sc N Nc cap scope := by
  unfold blkChk at h
  simp only [Bool.and_eq_true, beq_iff_eq, List.all_eq_true, bne_iff_ne, ne_eq, Bool.or_eq_true, decide_eq_true_eq] at h
  obtain ⟨⟨⟨⟨h1, h2⟩, h3⟩, h4⟩, h5⟩ := h
  refine ⟨h1, fun y hy => (h2 y hy).1.1, fun y hy hf => ?_, fun y hy => (h2 y hy).1.2, h3, h4, fun i y j e1 e2 => ?_⟩
  · rcases (h2 y hy).2 with (q | q) | q
    · exact absurd hf q
    · exact .inl q
    · exact .inr q
  · have m : (y, some j) ∈ Nc.zip cap := by
      refine List.mem_of_getElem? (i := i) ?_
      rw [List.getElem?_zip_eq_some]
      exact ⟨e1, e2⟩
    have z := h5 _ m
    simpa using z
theorem relabel_lookup {env : Env} {x : Str} : ∀ {names : List (Str × NameKind)} {k : NameKind}, ((names.map fun (n, k) => if (k == NameKind.free && env.scope.kind == .function && env.kindOf n == some .cell) then (n, NameKind.cell) else (n, k)).lookup x = some k) → k ≠ .cell ∧ names.lookup x = some k ∨ (k = .cell ∧ (names.lookup x = some .cell ∨ names.lookup x = some .free))
  | [], _, h => by simp at h
  | (n, q) :: r, k, h => by
    have ih := @relabel_lookup env x r k
    rw [List.map_cons] at h
    dsimp only at h
    by_cases hx : (x == n) = true
    · by_cases hc : (q == NameKind.free && env.scope.kind == .function && env.kindOf n == some .cell) = true
      · rw [if_pos hc, List.lookup_cons, hx] at h
        cases h
        rw [Bool.and_eq_true, Bool.and_eq_true] at hc
        refine .inr ⟨rfl, .inr ?_⟩
        rw [List.lookup_cons, hx]
        exact congrArg some (beq_iff_eq.mp hc.1.1)
      · rw [if_neg hc, List.lookup_cons, hx] at h
        cases h
        rw [List.lookup_cons, hx]
        by_cases z : q = .cell
        · exact .inr ⟨z, .inl (congrArg some z)⟩
        · exact .inl ⟨z, rfl⟩
    · have hx' : (x == n) = false := by simpa using hx
      rw [List.lookup_cons, hx']
      refine ih ?_
      by_cases hc : (q == NameKind.free && env.scope.kind == .function && env.kindOf n == some .cell) = true
      · rw [if_pos hc, List.lookup_cons, hx'] at h
        exact h
      · rw [if_neg hc, List.lookup_cons, hx'] at h
        exact h

section
variable {X : Cx} {pins : List (Addr × Obj)} {σ : St} {H : Hp} {s : Shared}
theorem blk_inv {Nc : List Str} {cap : List (Option Nat)} {scope : Scope} {cl : List (Str × Addr)} {fp : List Addr} {h1 : Heap} {tk : Nat} {m1 : Str → Option Value} (I : Inv X pins σ H s) (B : BlkOk X.env.scope X.N Nc cap scope)
    (hsub : ∀ x c, cl.lookup x = some c → X.env.cells.lookup x = some c) (hfr : ∀ y ∈ scope.names, y.2 = .free → ∃ c, cl.lookup y.1 = some c) (hf : ∀ b ∈ fp, FpOk X pins H b) (hin : ∀ b ∈ fp, b < s.heap.objs.size)
    (hk : ∀ b o, s.heap.get? b = some o → h1.get? b = some o) (hn : h1.Ns s.heap.objs.size m1) : Inv (X.blk Nc scope cl s H fp) [] (capS cap σ) H { s with heap := h1, toks := tk } := by
  have ok := I.ok
  have bsz : X.base.objs.size ≤ s.heap.objs.size := Nat.le_trans ok.bsz I.sz
  refine ⟨⟨ok.mod, B.kind, ok.glob, ok.blt, Nat.le_refl _, fun x y c h1 h2 => ok.inj x y c (hsub x c h1) (hsub y c h2), fun x hx => ?_, (by intro x c z; cases z), ok.hd, ok.frames, .inl rfl, fun b hb => ⟨Nat.ne_of_lt (hin b hb), fun x c e => (hf b hb).2.2.2.2.1 x c (hsub x c e)⟩,
    I.bs, bsz, fun b o e hb => ?_, fun b hb z => ?_, I.stack, I.stkFree⟩, rfl, I.bare, Un.kept hk, ⟨m1, hn, fun i y v e1 e2 e3 => ?_⟩, fun x c e => ?_, I.hok.fresh (Nat.le_refl _), fun x c e => I.freeC x c (hsub x c e), (by intro p hp; cases hp), I.hok.kept hk, ?_⟩
  · have look : ∀ k, (relabel scope X.env).names.lookup x = some k → k = .cell ∨ k = .free → ∃ c, cl.lookup x = some c := fun k q hk => by
      rcases relabel_lookup q with ⟨n1, n2⟩ | ⟨_, n2 | n2⟩
      · rcases hk with r | r
        · exact absurd r n1
        · exact hfr (x, k) (PySem.mem_of_lookup n2) r
      · exact absurd rfl (B.nocell _ (PySem.mem_of_lookup n2))
      · exact hfr (x, .free) (PySem.mem_of_lookup n2) rfl
    rcases hx with q | q
    · exact look _ q (.inl rfl)
    · exact look _ q (.inr rfl)
  · rcases (hf b hb).2.2.2.1 with q | q
    · exact ok.noex b o e q
    · exact absurd (Nat.lt_of_lt_of_le (Heap.lt_size e) (Nat.le_trans ok.bsz q)) (Nat.lt_irrefl _)
  · rcases List.mem_cons.mp (I.stkSub b z) with q | q
    · exact (hf b hb).2.1 q
    · exact (hf b hb).2.2.1 q
  · have e2' : (cap[i]?).map (fun o => o.bind fun j => (σ[j]?).join) = some (some v) := by rw [← List.getElem?_map]; exact e2
    obtain ⟨o, ho, eo⟩ := Option.map_eq_some_iff.mp e2'
    obtain ⟨j, rfl, ej⟩ := Option.bind_eq_some_iff.mp eo
    have ej' : σ[j]? = some (some v) := by
      cases q : σ[j]? with
      | none => rw [q] at ej; cases ej
      | some z => rw [q] at ej; cases ej; rfl
    obtain ⟨c1, c2⟩ := B.cap i y j e1 ho
    have vis := B.free (y, .free) (PySem.mem_of_lookup c2) rfl
    obtain ⟨m, _, hl⟩ := I.loc
    obtain ⟨u, r, lk⟩ := hl j y v c1 ej' (.inr vis)
    obtain ⟨c', ec⟩ := hfr (y, .free) (PySem.mem_of_lookup c2) rfl
    have ec2 := hsub _ _ ec
    rcases lk with ⟨kl, _⟩ | ⟨_, c, e, z⟩
    · have kl' : X.env.scope.names.lookup y = some .local := kl
      rcases vis with q | q
      · have q' : X.env.scope.names.lookup y = some .cell := q
        rw [kl'] at q'; cases q'
      · have q' : X.env.scope.names.lookup y = some .free := q
        rw [kl'] at q'; cases q'
    · have ecc : X.env.cells.lookup y = some c' := ec2
      rw [e] at ecc
      cases ecc
      refine ⟨u, r, .inr ⟨?_, _, ec, ?_⟩⟩
      · rcases e3 with q | q | q
        · rcases relabel_lookup q with ⟨_, n2⟩ | ⟨n1, _⟩
          · rw [c2] at n2; cases n2
          · cases n1
        · exact .inl q
        · exact .inr q
      · obtain ⟨o, ho, hd⟩ := z
        exact ⟨o, hk _ _ ho, hd⟩
  · obtain ⟨v, o, ho, hd⟩ := I.cell x c (hsub x c e)
    exact ⟨v, o, hk _ _ ho, hd⟩
  · show (capS cap σ).length = Nc.length
    rw [capS, List.length_map, B.len]
/-- behind the block -/
theorem blk_out {Nc : List Str} {scope : Scope} {cl : List (Str × Addr)} {fp : List Addr} {σc : St} {Hc : Hp} {s' : Shared} {h' : Heap} (I : Inv X pins σ H s) (hf : ∀ b ∈ fp, FpOk X pins H b) (J : Inv (X.blk Nc scope cl s H fp) [] σc Hc s')
    (hs : Heap.SameBut s.heap.objs.size s'.heap h') : Inv X pins σ Hc { s' with heap := h' } := by
  have ne : ∀ b o, s.heap.get? b = some o → b ≠ s.heap.objs.size := fun b o e => Nat.ne_of_lt (Heap.lt_size e)
  have u := J.base
  refine I.call' (ch := fp) J.os ⟨fun b o e n hb hx => (hs.2 b (ne b o e)).trans (u.keep b o e n hb hx), fun b o e n hb hx => ?_, u.free, fun b o e hx => ?_, u.tups, u.frzs, u.tbls⟩ (fun b ob e => ?_) J.bare fun b hb => ⟨(hf b hb).2.2.2.1, (hf b hb).2.1, (hf b hb).2.2.2.2.1, (hf b hb).2.2.2.2.2⟩
  · obtain ⟨sl, q⟩ := u.slot b o e n hb hx
    exact ⟨sl, (hs.2 b (ne b o e)).trans q⟩
  · obtain ⟨o', q⟩ := u.there b o e hx
    exact ⟨o', (hs.2 b (ne b o e)).trans q⟩
  · have hC : Hc s.heap.objs.size = none := J.free
    refine (J.hok b ob e).stay (fun c w' hc q => (hs.2 c ?_).trans q) (fun _ q => q) fun _ _ q => q
    rintro rfl
    rcases hc with z | hc
    · rw [← z, hC] at e; cases e
    · rw [hC] at hc; cases hc
end

/-- several untracked records of ours have turned -/
theorem Inv.turns {X : Cx} {pins : List (Addr × Obj)} {σ : St} {H : Hp} {s : Shared} {h' : Heap} {t' : Nat} {ch : List Addr} (I : Inv X pins σ H s) (k : ∀ b o, b ∉ ch → s.heap.get? b = some o → h'.get? b = some o) (hf : ∀ b ∈ ch, FpOk X pins H b) : Inv X pins σ H { s with heap := h', toks := t' } := by
  refine I.call (g' := s.gens) (d' := s.drawn) (ch := ch) ⟨fun b o e _ _ hx => k b o hx e, fun b o e _ _ hx => ⟨o.slots, k b o hx e⟩, fun _ _ _ n _ => n, fun b o e hx => ⟨o, k b o hx e⟩, fun _ _ q => q, fun _ _ _ q => q, fun _ ps q => ⟨#[], by rw [q]; simp⟩⟩ (fun b u e => ?_) I.bare
    fun b hb => ⟨(hf b hb).2.2.2.1, (hf b hb).2.1, (hf b hb).2.2.2.2.1, (hf b hb).2.2.2.2.2⟩
  refine (I.hok b u e).stay (fun c v hc q => k c v (fun z => ?_) q) (fun _ q => q) fun _ _ q => q
  have n := (hf c z).1
  rcases hc with r | r
  · rw [r, e] at n; cases n
  · rw [r] at n; cases n
/-- [elt for tg in iter if ..]: the walk, whatever is done with the list -/
theorem comp_core {X : Cx} {pins : List (Addr × Obj)} {s : Shared} {σ : St} {H : Hp} {Q : VK} {sc : Scope} {N Nc : List Str} {cap : List (Option Nat)} {elt tg iter : Expr} {ifs : List Expr} {scope : Scope} {pos pos' : Pos} {wi : TI} {g : TG} {tt : TT} {te : TE} {use : Option (Value → Sem Unit)} {QQ : Value → Shared → Prop}
    (hc : X.calm = true) (hsc : X.env.scope = sc) (hN : X.N = N) (B : BlkOk sc N Nc cap scope) (hi : PI X tg iter wi)
    (hg : ∀ cl s H fp, PG (X.blk Nc scope cl s H fp) tg g) (ht : ∀ cl s H fp, PTs (X.blk Nc scope cl s H fp) ifs tt) (he : ∀ cl s H fp, PE (X.blk Nc scope cl s H fp) elt te)
    (hs : ∀ x, foldedSetIterable iter X.env x = pure x) (I : Inv X pins σ H s) (h : tComp wi g tt te cap σ H Q)
    (fin : ∀ (s3 : Shared) (H3 : Hp) (cl : List (Str × Addr)) (fp : List Addr) (D : Addr) (σc : St) (Hc : Hp) (s6 : Shared), Inv X pins σ H3 s3 → (∀ b ∈ fp, FpOk X pins H3 b) → Inv (X.blk Nc scope cl s3 H3 fp) [] σc Hc s6 → Q (.ref D) Hc → compPost (model X.prog X.w) X.A X.xe use QQ (.ref D) s3.heap.objs.size (.ok .next) s6) :
    wpAny (model X.prog X.w) X.A (comprehension (.ListComp elt [⟨tg, iter, ifs, 0⟩] scope pos) scope X.env pos' (newList []) false (eval iter X.env) use) QQ X.xe s := by
  subst hsc hN
  obtain ⟨cl, hclos, hsub, hfr⟩ := closure_ok (scope := scope) (env := X.env) fun y hy hf => I.ok.has y.1 (B.free y hy hf)
  refine wpAny_comprehension_free (use := use) rfl hs hclos B.kind (fun y hy hl => by rw [B.once y hy, hl]) (thn (hi pins s σ H _ I h) fun v s1 h1 => thn h1 fun itv s2 h2 => ?_)
  obtain ⟨it, fp, tn, J, H2, rfl, I2, T, st2, f2, hw⟩ := h2
  refine wpAny_newObj_type ?_
  have hfree : H2 s2.heap.objs.size = none := I2.hok.fresh (Nat.le_refl _)
  have I3 := I2.laid (t' := s2.toks) (o := .lst []) (fun b u e => Heap.get?_push_of_some { cls := .type "list", dict := none, data := .seq ([] : List Value).toArray } e) (Nat.le_refl _) ⟨by decide, [], 0, .nil, Heap.get?_push_size _ rfl⟩
  obtain ⟨W, ⟨m0, w0⟩, turn⟩ := hw _ hfree
  have keep23 : ∀ b o, s2.heap.get? b = some o → (s2.heap.push { cls := .type "list", dict := none, data := .seq ([] : List Value).toArray }).get? b = some o := fun b o e => Heap.get?_push_of_some _ e
  have hin : ∀ b ∈ fp, b < s2.heap.objs.size := fun b hb => let ⟨o, e, _⟩ := T.obj 0 _ st2 b hb; Heap.lt_size e
  have f3 : ∀ b ∈ fp, FpOk X pins (upd H2 s2.heap.objs.size (.lst [])) b := fun b hb => ⟨by rw [upd_ne (Nat.ne_of_lt (hin b hb))]; exact (f2 b hb).1, (f2 b hb).2⟩
  have st3 := T.keep 0 _ _ st2 fun b _ o e => keep23 b o e
  have hin3 : ∀ b ∈ fp, b < (s2.heap.push { cls := .type "list", dict := none, data := .seq ([] : List Value).toArray }).objs.size := fun b hb => let ⟨o, e, _⟩ := T.obj 0 _ st3 b hb; Heap.lt_size e
  clear keep23 hin
  generalize s2.heap.push { cls := .type "list", dict := none, data := .seq ([] : List Value).toArray } = h3 at I3 st3 hin3 ⊢
  generalize upd H2 s2.heap.objs.size (.lst []) = H3 at I3 f3 w0
  generalize s2.heap.objs.size = D at hfree w0 turn ⊢
  refine wpAny_newFunctionEnv B.nocell (by intro y hy; cases hy) (fun h1 hns hsb => ?_) B.kind
  have keep : ∀ b o, h3.get? b = some o → h1.get? b = some o := fun b o e => (hsb.2 b (Nat.ne_of_lt (Heap.lt_size e))).trans (Heap.get?_push_of_some _ e)
  have I4 := blk_inv (tk := s2.toks + ([] : List (Str × Value)).length) I3 B hsub hfr f3 hin3 keep hns
  have st4 := T.keep 0 _ _ st3 fun b _ o e => keep b o e
  have stat : ∀ {H' : Hp}, (∀ b ∈ fp, H' b = none) → ∀ b ∈ fp, FpOk (X.blk Nc scope cl { s2 with heap := h3, toks := s2.toks } H3 fp) [] H' b := fun hn b hb =>
    ⟨hn b hb, Nat.ne_of_lt (hin3 b hb), fun z => by
      rcases List.mem_cons.mp (I3.stkSub b z) with q | q
      · exact (f3 b hb).2.1 q
      · exact (f3 b hb).2.2.1 q, .inl hb, fun x c e => (f3 b hb).2.2.2.2.1 x c (hsub x c e), by intro p hp; cases hp⟩
  have hcb : (X.blk Nc scope cl { s2 with heap := h3, toks := s2.toks } H3 fp).calm = true := hc
  have loop : codeAny (model X.prog X.w) X.A (.compLoop (.ListComp elt [⟨tg, iter, ifs, 0⟩] scope pos) 0 (.ref it) (.ref D) (compEnvC scope cl h3.objs.size X.env)) (compPost (model X.prog X.w) X.A X.xe use QQ (.ref D) h3.objs.size) { s2 with heap := h1, toks := s2.toks + ([] : List (Str × Value)).length } := by
    refine compLoop_any (fun n s' => ∃ i σ' H', Inv (X.blk Nc scope cl { s2 with heap := h3, toks := s2.toks } H3 fp) [] σ' H' s' ∧ tn i s'.heap ∧ (∀ b ∈ fp, H' b = none) ∧ W i n σ' H') rfl ?_ m0 ⟨0, _, H3, I4, st4, fun b hb => (f3 b hb).1, w0⟩
    rintro n s5 ⟨i, σ5, H5, I5, st5, fr5, w5⟩
    rcases turn i n σ5 H5 w5 with ⟨stop, qn⟩ | ⟨go, N', hN', step⟩
    · refine thn (T.done (X.blk Nc scope cl { s2 with heap := h3, toks := s2.toks } H3 fp) rfl rfl rfl hcb i [] s5 σ5 H5 _ I5 (stat fr5) st5 stop) fun r s6 ⟨hr, I6⟩ => ?_
      subst hr
      exact fin { s2 with heap := h3, toks := s2.toks } H3 cl fp D σ5 H5 s6 I3 f3 I6 qn
    · refine thn (T.item (X.blk Nc scope cl { s2 with heap := h3, toks := s2.toks } H3 fp) rfl rfl rfl hcb i [] s5 σ5 H5 _ I5 (stat fr5) st5 go) fun r s6 ⟨u, hr, h6⟩ => ?_
      subst hr
      refine thn h6 fun _ s7 ⟨x, H7, I7, r7, y7, st7, fr7⟩ => ?_
      have I7' := I7.pinned (stat fr7) (T.obj _ _ st7)
      refine wpAny_mono (hg cl _ H3 fp _ s7 σ5 H7 x u _ I7' r7 (step x H7 y7)) (fun _ s8 ⟨σ8, H8, I8, q8⟩ => ?_) fun _ _ z => z.elim
      have again : ∀ {H9 : Hp} {s9 : Shared} {m : Nat}, Inv (X.blk Nc scope cl { s2 with heap := h3, toks := s2.toks } H3 fp) ([] ++ pinsAt fp s7.heap) σ8 H9 s9 → m < n → W (i + 1) m σ8 H9 → ∃ m, m < n ∧ ∃ i σ' H', Inv (X.blk Nc scope cl { s2 with heap := h3, toks := s2.toks } H3 fp) [] σ' H' s9 ∧ tn i s9.heap ∧ (∀ b ∈ fp, H' b = none) ∧ W i m σ' H' := fun {H9 s9 m} I9 hm w9 => by
        refine ⟨m, hm, i + 1, σ8, H9, I9.unpinned, T.keep _ _ _ st7 fun b hb o e => (I9.pin (b, o) (List.mem_append_right _ (List.mem_append_right _ (mem_pinsAt hb e)))).1, fun b hb => ?_, w9⟩
        obtain ⟨o, e, d⟩ := T.obj _ _ st7 b hb
        exact (I9.pin (b, o) (List.mem_append_right _ (List.mem_append_right _ (mem_pinsAt hb e)))).2.1
      refine wpAny_mono (ht cl _ H3 fp _ s8 σ8 H8 _ I8 q8) (fun b s9 ⟨H9, I9, q9⟩ => ?_) fun _ _ z => z.elim
      cases b with
      | false =>
        rw [if_neg (by decide)] at q9
        obtain ⟨m', hm, w9⟩ := hN' _ _ q9
        exact again I9 hm w9
      | true =>
        rw [if_pos rfl] at q9
        refine wpAny_mono (he cl _ H3 fp _ s9 σ8 H9 _ I9 q9) (fun u s10 ⟨y, H10, I10, r10, q10⟩ => ?_) fun _ _ z => z.elim
        refine wpAny_mono (mt_append (X := X.blk Nc scope cl { s2 with heap := h3, toks := s2.toks } H3 fp) _ s10 σ8 H10 (.ref D) [y] (.ref D) [u] _ I10 rfl (.cons r10 .nil) q10) (fun _ s11 ⟨_, H11, I11, _, q11⟩ => ?_) fun _ _ z => z.elim
        obtain ⟨m', hm, w11⟩ := hN' _ _ q11
        exact again I11 hm w11
  exact codeAny_compStart_list loop (T.self _ 0 _ _ _ st4 loop)
/-- [elt for tg in iter if ..] -/
theorem pe_comp {X : Cx} {sc : Scope} {N Nc : List Str} {cap : List (Option Nat)} {elt tg iter : Expr} {ifs : List Expr} {scope : Scope} {pos : Pos} {wi : TI} {g : TG} {tt : TT} {te : TE} (hc : X.calm = true) (hsc : X.env.scope = sc) (hN : X.N = N) (B : BlkOk sc N Nc cap scope) (hi : PI X tg iter wi)
    (hg : ∀ cl s H fp, PG (X.blk Nc scope cl s H fp) tg g) (ht : ∀ cl s H fp, PTs (X.blk Nc scope cl s H fp) ifs tt) (he : ∀ cl s H fp, PE (X.blk Nc scope cl s H fp) elt te)
    (hs : ∀ x, foldedSetIterable iter X.env x = pure x := by intro _; rfl) : PE X (.ListComp elt [⟨tg, iter, ifs, 0⟩] scope pos) (tComp wi g tt te cap) := by
  intro pins s σ H Q I h
  rw [eval_ListComp]
  refine comp_core hc hsc hN B hi hg ht he hs I h fun s3 H3 cl fp D σc Hc s6 I3 f3 I6 q => ?_
  obtain ⟨m, hn, _⟩ := id I6.loc
  exact ⟨m, hn, fun h' hs' => ⟨.ref D, Hc, blk_out I3 f3 I6 hs', rfl, q⟩⟩
/-- name = [elt for tg in iter if ..], on one row: the list is stored ahead of the block's end -/
theorem ps_setComp {X : Cx} {i : Nat} {y : Str} {py spos : Pos} {sc : Scope} {N Nc : List Str} {cap : List (Option Nat)} {elt tg iter : Expr} {ifs : List Expr} {scope : Scope} {pos : Pos} {wi : TI} {g : TG} {tt : TT} {te : TE} (hnd : X.N.Nodup) (hix : X.N[i]? = some y) (hl : X.env.scope.names.lookup y = some .local)
    (hc : X.calm = true) (hsc : X.env.scope = sc) (hN : X.N = N) (B : BlkOk sc N Nc cap scope) (hi : PI X tg iter wi)
    (hg : ∀ cl s H fp, PG (X.blk Nc scope cl s H fp) tg g) (ht : ∀ cl s H fp, PTs (X.blk Nc scope cl s H fp) ifs tt) (he : ∀ cl s H fp, PE (X.blk Nc scope cl s H fp) elt te)
    (hsw : swapsWith (.ListComp elt [⟨tg, iter, ifs, 0⟩] scope pos) (some (.Name y py)) spos.line X.env = pure true := by rfl)
    (hs : ∀ x, foldedSetIterable iter X.env x = pure x := by intro _; rfl) : PS X (.Assign [.Name y py] (.ListComp elt [⟨tg, iter, ifs, 0⟩] scope pos) spos) (tAsg (tComp wi g tt te cap) (gName i)) := by
  intro pins s σ H D0 I h
  rw [exec_Assign_Name_used _ _ _ _ hsw]
  refine wpAny_bind (wpAny_standAt (wpAny_bind (wpAny_bind (thn (comp_core (use := some (assign (.Name y py) X.env)) (QQ := fun _ s' => SP X pins D0 .next s') hc hsc hN B hi hg ht he hs I h fun s3 H3 cl fp D σc Hc s6 I3 f3 I6 q => ?_) fun _ s' hq => wpAny_pure (wpAny_pure hq)))))
  have I6x : Inv X pins σ Hc s6 := blk_out I3 f3 I6 (Heap.SameBut.refl ..)
  obtain ⟨m, hn, _⟩ := id I6.loc
  have hC : Hc s3.heap.objs.size = none := I6.free
  have fpC := I3.fpOk (b := s3.heap.objs.size) (Nat.le_refl _) hC
  refine wpAny_assign_Name (store_ok2 I6x hnd hix (.inl hl) (v := .ref D) rfl (fun s7 I7 ch => ?_) (.inr hl))
  obtain ⟨a, same, ha⟩ := ch
  have nC : s3.heap.objs.size ≠ a := by
    rcases ha with r | r
    · rw [r]; exact fpC.2.1
    · exact (fpC.2.2.2.2.1 _ _ r).symm
  refine ⟨m, hn.sameBut same nC, fun h' hs' => ⟨_, _, I7.turns (t' := s7.toks) (ch := [s3.heap.objs.size]) (fun b o hb e => (hs'.2 b (by simpa using hb)).trans e) fun b hb => ?_, q⟩⟩
  have e : b = s3.heap.objs.size := by simpa using hb
  rw [e]
  exact fpC
/-- the forms one uses: over a list that the element leaves as it is; ys is what has been told -/
theorem comp_list {K : PySem.W.Frag} {a : Addr} {xs : List V} {g : TG} {tt : TT} {te : TE} {σ : St} {H : Hp} {D : Addr} {Q : VK} (Pv : Nat → List V → St → Hp → Prop) (h0 : Pv 0 [] σ (upd H D (.lst []))) (hl : ∀ i ys σ H, i ≤ xs.length → Pv i ys σ H → SqL K H a xs)
    (hs : ∀ i x ys σ H, xs[i]? = some x → H D = some (.lst ys) → Pv i ys σ H → g x σ H fun σ2 H2 => tt σ2 H2 fun b H3 => if b = true then te σ2 H3 fun y H4 => rAppend (.ref D) [y] H4 fun _ H5 => ∃ ys, H5 D = some (.lst ys) ∧ Pv (i + 1) ys σ2 H5 else ∃ ys, H3 D = some (.lst ys) ∧ Pv (i + 1) ys σ2 H3)
    (hd : ∀ ys σ H, H D = some (.lst ys) → Pv xs.length ys σ H → Q (.ref D) H) :
    ∃ W : Nat → Nat → St → Hp → Prop, (∃ m, W 0 m σ (upd H D (.lst []))) ∧ ∀ i m σc Hc, W i m σc Hc →
      ((Itl K a).stop i Hc ∧ Q (.ref D) Hc) ∨ ((Itl K a).go i Hc ∧ ∃ N : St → Hp → Prop, (∀ σ' H', N σ' H' → ∃ m', m' < m ∧ W (i + 1) m' σ' H') ∧ ∀ x H', (Itl K a).yld i Hc x H' → g x σc H' fun σ2 H2 => tt σ2 H2 fun b H3 => if b = true then te σ2 H3 fun y H4 => rAppend (.ref D) [y] H4 fun _ H5 => N σ2 H5 else N σ2 H3) := by
  refine ⟨fun i m σ H => m = xs.length - i ∧ i ≤ xs.length ∧ ∃ ys, H D = some (.lst ys) ∧ Pv i ys σ H, ⟨_, rfl, Nat.zero_le _, [], upd_same, h0⟩, ?_⟩
  rintro i m σ H ⟨rfl, hi, ys, hD, pv⟩
  have q := hl i ys σ H hi pv
  by_cases hlt : i < xs.length
  · refine .inr ⟨⟨xs, xs[i], q, by simp [hlt]⟩, fun σ H => ∃ ys, H D = some (.lst ys) ∧ Pv (i + 1) ys σ H, fun σ' H' p' => ⟨_, by omega, rfl, hlt, p'⟩, fun x H' yl => ?_⟩
    obtain ⟨e, yl⟩ := yl
    subst e
    exact hs i x ys σ _ (yl xs q) hD pv
  · have e : i = xs.length := by omega
    subst e
    exact .inl ⟨⟨xs, q, Nat.le_refl _⟩, hd ys σ H hD pv⟩
/-- over range(lo, lo + n) -/
theorem comp_range {lo : Int} {n : Nat} {g : TG} {tt : TT} {te : TE} {σ : St} {H : Hp} {D : Addr} {Q : VK} (Pv : Nat → List V → St → Hp → Prop) (h0 : Pv 0 [] σ (upd H D (.lst [])))
    (hs : ∀ i ys σ H, i < n → H D = some (.lst ys) → Pv i ys σ H → g (.int (lo + i)) σ H fun σ2 H2 => tt σ2 H2 fun b H3 => if b = true then te σ2 H3 fun y H4 => rAppend (.ref D) [y] H4 fun _ H5 => ∃ ys, H5 D = some (.lst ys) ∧ Pv (i + 1) ys σ2 H5 else ∃ ys, H3 D = some (.lst ys) ∧ Pv (i + 1) ys σ2 H3)
    (hd : ∀ ys σ H, H D = some (.lst ys) → Pv n ys σ H → Q (.ref D) H) :
    ∃ W : Nat → Nat → St → Hp → Prop, (∃ m, W 0 m σ (upd H D (.lst []))) ∧ ∀ i m σc Hc, W i m σc Hc →
      ((Itr lo n).stop i Hc ∧ Q (.ref D) Hc) ∨ ((Itr lo n).go i Hc ∧ ∃ N : St → Hp → Prop, (∀ σ' H', N σ' H' → ∃ m', m' < m ∧ W (i + 1) m' σ' H') ∧ ∀ x H', (Itr lo n).yld i Hc x H' → g x σc H' fun σ2 H2 => tt σ2 H2 fun b H3 => if b = true then te σ2 H3 fun y H4 => rAppend (.ref D) [y] H4 fun _ H5 => N σ2 H5 else N σ2 H3) := by
  refine ⟨fun i m σ H => m = n - i ∧ i ≤ n ∧ ∃ ys, H D = some (.lst ys) ∧ Pv i ys σ H, ⟨_, rfl, Nat.zero_le _, [], upd_same, h0⟩, ?_⟩
  rintro i m σ H ⟨rfl, hi, ys, hD, pv⟩
  by_cases hlt : i < n
  · refine .inr ⟨hlt, fun σ H => ∃ ys, H D = some (.lst ys) ∧ Pv (i + 1) ys σ H, fun σ' H' p' => ⟨_, by omega, rfl, hlt, p'⟩, fun x H' yl => ?_⟩
    obtain ⟨e, yl⟩ := yl
    subst e yl
    exact hs i ys σ _ hlt hD pv
  · have e : i = n := by omega
    subst e
    exact .inl ⟨Nat.le_refl _, hd ys σ H hD pv⟩
end L2

/-! Own rules beside the hand layer: all, any, sum of a list. Behind MyComp; imports PyProof.ConsumeWalk, PyProof.SumWalkG. -/
namespace L2
open PySem PySem.Spec PyProof.Rows
/-! ### all, any, sum of a list -/
def rAll (K : PySem.W.Frag) : List V → Hp → VK → Prop := fun xs H Q => ∃ (p : Addr) (bs : List Bool), xs = [.ref p] ∧ SqL K H p (bs.map V.bl) ∧ Q (.bl (bs.all id)) H
def rAny (K : PySem.W.Frag) : List V → Hp → VK → Prop := fun xs H Q => ∃ (p : Addr) (bs : List Bool), xs = [.ref p] ∧ SqL K H p (bs.map V.bl) ∧ Q (.bl (bs.any id)) H
def rSum (K : PySem.W.Frag) : List V → Hp → VK → Prop := fun xs H Q => ∃ (p : Addr) (ns : List Int), xs = [.ref p] ∧ SqL K H p (ns.map V.int) ∧ Q (.int ns.sum) H
section
variable {X : Cx}
theorem val_int {ns : List Int} {its : List Value} {i : Nat} {v : Value} (r : Vals (ns.map V.int) its) (e : its.toArray[i]? = some v) : ∃ t, v = .int (ns.getD i 0) t := by
  have l := r.length
  rw [List.length_map] at l
  have e' : its[i]? = some v := by simpa using e
  have hi : i < ns.length := by rw [l]; exact (List.getElem?_eq_some_iff.mp e').1
  obtain ⟨u, hu, ru⟩ := r.get (i := i) (x := .int ns[i]) (by rw [List.getElem?_map, List.getElem?_eq_getElem hi]; rfl)
  rw [e'] at hu
  cases hu
  obtain ⟨t, rfl⟩ := ru
  refine ⟨t, ?_⟩
  rw [List.getD_eq_getElem?_getD, List.getElem?_eq_getElem hi]
  rfl
end
end L2

/-! Own rules beside the hand layer: zip of two lists, walked. Behind MyColl; imports PyProof.ZipIter, PyProof.Rows.ZipGen, PyProof.Rows.FactsT2. -/
namespace L2
open PySem PySem.Spec PyProof.Rows
/-! ### zip of two lists, walked -/
def Itz (K : PySem.W.Frag) (p q : Addr) : It where
  go := fun i H => ∃ xs ys a b, SqL K H p xs ∧ SqL K H q ys ∧ xs[i]? = some a ∧ ys[i]? = some b
  yld := fun i H x H' => ∃ t a b, x = .ref t ∧ H t = none ∧ H' = upd H t (.tup [a, b]) ∧ (∀ xs, SqL K H p xs → xs[i]? = some a) ∧ ∀ ys, SqL K H q ys → ys[i]? = some b
  stop := fun i H => ∃ xs ys, SqL K H p xs ∧ SqL K H q ys ∧ i = min xs.length ys.length
def tnZ (z TI TO i1 i2 p q : Addr) (i : Nat) (h : Heap) : Prop := IsZip h z TI TO .none ∧ IsPair h TI (.ref i1) (.ref i2) ∧ (∃ a b, IsPair h TO a b) ∧ h.IsListIter i1 p i ∧ h.IsListIter i2 q i
theorem fields_nocell {o : Obj} {vs : Array Value} (h : o.data = .fields vs) : ∀ v, o.data ≠ .cell v := fun v z => by rw [h] at z; cases z
def iZip (K : PySem.W.Frag) (ta : TA) : TI := fun σ H R => ta σ H fun vs H1 => ∃ p q, vs = [.ref p, .ref q] ∧ (∃ xs, SqL K H1 p xs) ∧ (∃ ys, SqL K H1 q ys) ∧ R (Itz K p q) H1
end L2

/-! Own rules beside the hand layer: lists and tuples alike all the way down. Behind MyZip. -/
namespace L2
open PySem PySem.Spec PyProof.Rows
/-! ### things alike all the way down -/
inductive Tr where
  | int (i : Int)
  | bl (b : Bool)
  | str (x : Str)
  | non
  | lst (l : List Tr)
  | tup (l : List Tr)
/-- a value that shows this tree, of this depth at most -/
inductive Shows (K : PySem.W.Frag) (H : Hp) : Nat → Tr → V → Prop where
  | int {n : Nat} (i : Int) : Shows K H n (.int i) (.int i)
  | bl {n : Nat} (b : Bool) : Shows K H n (.bl b) (.bl b)
  | str {n : Nat} (x : Str) : Shows K H n (.str x) (.str x)
  | non {n : Nat} : Shows K H n .non .non
  | lst {n : Nat} {p : Addr} {xs : List V} {ts : List Tr} (h : SqL K H p xs) (l : xs.length = ts.length) (e : ∀ (i : Nat) x t, xs[i]? = some x → ts[i]? = some t → Shows K H n t x) : Shows K H (n + 1) (.lst ts) (.ref p)
  | tup {n : Nat} {p : Addr} {xs : List V} {ts : List Tr} (h : SqT K H p xs) (l : xs.length = ts.length) (e : ∀ (i : Nat) x t, xs[i]? = some x → ts[i]? = some t → Shows K H n t x) : Shows K H (n + 1) (.tup ts) (.ref p)
section
variable {X : Cx} {pins : List (Addr × Obj)} {σ : St} {H : Hp} {s : Shared}
theorem items_eq {A : Around} {n : Nat} {xs ys : List V} {ts : List Tr} {us vs : List Value} (lx : xs.length = ts.length) (ly : ys.length = ts.length) (r1 : Vals xs us) (r2 : Vals ys vs)
    (ih : ∀ (i : Nat) x t, xs[i]? = some x → ts[i]? = some t → ∀ y, Shows X.K H n t y → ∀ (u v : Value) (A : Around), RelV x u → RelV y v → A.units + n < cLine → SeqAt.EqAt A s u v true)
    (ey : ∀ (i : Nat) y t, ys[i]? = some y → ts[i]? = some t → Shows X.K H n t y) (hu : A.units + (n + 1) < cLine) :
    ∀ j (h1 : j < us.toArray.size) (h2 : j < vs.toArray.size), SeqAt.EqAt A.in1 s us.toArray[j] vs.toArray[j] true := by
  intro j h1 h2
  have k1 : j < xs.length := by rw [r1.length]; simpa using h1
  have k2 : j < ys.length := by rw [r2.length]; simpa using h2
  have k3 : j < ts.length := by omega
  obtain ⟨u, e1, ru⟩ := r1.get (List.getElem?_eq_getElem k1)
  obtain ⟨v, e2, rv⟩ := r2.get (List.getElem?_eq_getElem k2)
  have q1 : us.toArray[j] = u := by
    have := (List.getElem?_eq_some_iff.mp e1).2
    simpa using this
  have q2 : vs.toArray[j] = v := by
    have := (List.getElem?_eq_some_iff.mp e2).2
    simpa using this
  rw [q1, q2]
  exact ih j _ _ (List.getElem?_eq_getElem k1) (List.getElem?_eq_getElem k3) _ (ey j _ _ (List.getElem?_eq_getElem k2) (List.getElem?_eq_getElem k3)) u v A.in1 ru rv (by show A.units + 1 + n < cLine; omega)
theorem all_true (n : Nat) : (List.range n).all (fun _ => true) = true := by simp
theorem deep_eq (I : Inv X pins σ H s) {n : Nat} {t : Tr} {x : V} (hx : Shows X.K H n t x) : ∀ y, Shows X.K H n t y → ∀ (u v : Value) (A : Around), RelV x u → RelV y v → A.units + n < cLine → SeqAt.EqAt A s u v true := by
  induction hx with
  | int i =>
    intro y hy u v A ru rv hu
    cases hy
    obtain ⟨a, rfl⟩ := ru
    obtain ⟨b, rfl⟩ := rv
    have := SeqAt.EqAt.int_int (A := A) (s := s) i a i b
    rw [beq_self_eq_true] at this
    exact this
  | bl b =>
    intro y hy u v A ru rv hu
    cases hy
    cases ru
    cases rv
    exact SeqAt.EqAt.same _
  | str x =>
    intro y hy u v A ru rv hu
    cases hy
    obtain ⟨a, rfl⟩ := ru
    obtain ⟨b, rfl⟩ := rv
    have := SeqAt.EqAt.str_str (A := A) (s := s) x a x b
    rw [beq_self_eq_true] at this
    exact this
  | non =>
    intro y hy u v A ru rv hu
    cases hy
    cases ru
    cases rv
    exact SeqAt.EqAt.same _
  | @lst n p xs ts h l e ih =>
    intro y hy u v A ru rv hu
    cases hy with
    | @lst _ q ys _ h2 l2 e2 =>
      cases ru
      cases rv
      by_cases hpq : p = q
      · subst hpq
        exact SeqAt.EqAt.same _
      · obtain ⟨us, r1, p1, _⟩ := I.list h
        obtain ⟨vs, r2, p2, _⟩ := I.list h2
        have z := SeqAt.RcAt.lists (A := A) p1.isList p2.isList (by rw [List.size_toArray, List.size_toArray, ← r1.length, ← r2.length, l, l2]) (by omega) (e := fun _ => true) (items_eq l l2 r1 r2 ih e2 hu)
        rw [all_true] at z
        exact SeqAt.EqAt.of_refs hpq z
  | @tup n p xs ts h l e ih =>
    intro y hy u v A ru rv hu
    cases hy with
    | @tup _ q ys _ h2 l2 e2 =>
      cases ru
      cases rv
      by_cases hpq : p = q
      · subst hpq
        exact SeqAt.EqAt.same _
      · obtain ⟨us, r1, p1, _⟩ := I.tuple h
        obtain ⟨vs, r2, p2, _⟩ := I.tuple h2
        have z := SeqAt.RcAt.tuples (A := A) p1 p2 (by omega) (e := fun _ => true) (items_eq l l2 r1 r2 ih e2 hu)
        rw [all_true, List.size_toArray, List.size_toArray, ← r1.length, ← r2.length, l, l2, beq_self_eq_true, Bool.and_self] at z
        exact SeqAt.EqAt.of_refs hpq z
/-- two lists (or two tuples) that show one tree are alike -/
def rEqD (K : PySem.W.Frag) : R2 := fun x y H Q => ∃ n ts, n ≤ 60 ∧ (Shows K H (n + 1) (.lst ts) x ∧ Shows K H (n + 1) (.lst ts) y ∨ Shows K H (n + 1) (.tup ts) x ∧ Shows K H (n + 1) (.tup ts) y) ∧ Q (.bl true) H
def rNeD (K : PySem.W.Frag) : R2 := fun x y H Q => ∃ n ts, n ≤ 60 ∧ (Shows K H (n + 1) (.lst ts) x ∧ Shows K H (n + 1) (.lst ts) y ∨ Shows K H (n + 1) (.tup ts) x ∧ Shows K H (n + 1) (.tup ts) y) ∧ Q (.bl false) H
theorem op_neD (hu : X.A.units + 64 < cLine) : OpR X (compareOp .NotEq) (rNeD X.K) := by
  intro pins s σ H x y v u Q I rx ry h
  obtain ⟨n, ts, hn, h, q⟩ := h
  have hu' : X.A.units + (n + 1) < cLine := by omega
  rcases h with ⟨h1, h2⟩ | ⟨h1, h2⟩
  · cases h1 with
    | @lst _ p xs _ a1 a2 a3 =>
      cases h2 with
      | @lst _ p' ys _ b1 b2 b3 =>
        cases rx
        cases ry
        obtain ⟨us, r1, p1, _⟩ := I.list a1
        obtain ⟨vs, r2, p2, _⟩ := I.list b1
        have z := SeqAt.RcNeAt.lists (A := X.A) p1.isList p2.isList (by rw [List.size_toArray, List.size_toArray, ← r1.length, ← r2.length, a2, b2]) (by omega) (e := fun _ => true) (items_eq a2 b2 r1 r2 (fun i x t e1 e2 => deep_eq I (a3 i x t e1 e2)) b3 hu')
        rw [all_true] at z
        exact z X.prog X.w X.xe _ ⟨.bl false, H, I, rfl, q⟩
  · cases h1 with
    | @tup _ p xs _ a1 a2 a3 =>
      cases h2 with
      | @tup _ p' ys _ b1 b2 b3 =>
        cases rx
        cases ry
        obtain ⟨us, r1, p1, _⟩ := I.tuple a1
        obtain ⟨vs, r2, p2, _⟩ := I.tuple b1
        have z := SeqAt.RcNeAt.tuples (A := X.A) p1 p2 (by omega) (e := fun _ => true) (items_eq a2 b2 r1 r2 (fun i x t e1 e2 => deep_eq I (a3 i x t e1 e2)) b3 hu')
        rw [all_true, List.size_toArray, List.size_toArray, ← r1.length, ← r2.length, a2, b2, beq_self_eq_true, Bool.and_self] at z
        exact z X.prog X.w X.xe _ ⟨.bl false, H, I, rfl, q⟩
end
end L2

/-! Own rules beside the hand layer: a list unpacked into names. Behind MyDeep. -/
namespace L2
open PySem PySem.Spec PyProof.Rows
/-! ### a, b = a list of that length -/
def gLst (K : PySem.W.Frag) (n : Nat) (t : TGs) : TG := fun v σ H Q => ∃ a xs, v = .ref a ∧ SqL K H a xs ∧ xs.length = n ∧ t xs σ H Q
end L2

/-! Own rules beside the hand layer: a list held against the empty list. Behind MyUnp. -/
namespace L2
open PySem PySem.Spec PyProof.Rows
/-- xs == [] -/
def rEqE (K : PySem.W.Frag) : R2 := fun x y H Q => ∃ a b xs, x = .ref a ∧ y = .ref b ∧ SqL K H a xs ∧ SqL K H b [] ∧ Q (.bl xs.isEmpty) H
section
variable {X : Cx}
end
/-! ### comprehensions and loops over zip, folded -/
def CompIt (J : It) (g : TG) (tt : TT) (te : TE) (D : Addr) (Q : VK) (σ : St) (H : Hp) : Prop := ∃ W : Nat → Nat → St → Hp → Prop, (∃ m, W 0 m σ H) ∧ ∀ i m σc Hc, W i m σc Hc →
  (J.stop i Hc ∧ Q (.ref D) Hc) ∨ (J.go i Hc ∧ ∃ N : St → Hp → Prop, (∀ σ' H', N σ' H' → ∃ m', m' < m ∧ W (i + 1) m' σ' H') ∧ ∀ x H', J.yld i Hc x H' → g x σc H' fun σ2 H2 => tt σ2 H2 fun b H3 => if b = true then te σ2 H3 fun y H4 => rAppend (.ref D) [y] H4 fun _ H5 => N σ2 H5 else N σ2 H3)
theorem tComp_eq {wi : TI} {g : TG} {tt : TT} {te : TE} {cap : List (Option Nat)} {σ : St} {H : Hp} {Q : VK} : tComp wi g tt te cap σ H Q = wi σ H fun J H1 => ∀ D, H1 D = none → CompIt J g tt te D Q (capS cap σ) (upd H1 D (.lst [])) := rfl
theorem comp_listF {K : PySem.W.Frag} {a : Addr} {xs : List V} {g : TG} {tt : TT} {te : TE} {σ : St} {H : Hp} {D : Addr} {Q : VK} (Pv : Nat → List V → St → Hp → Prop) (h0 : Pv 0 [] σ (upd H D (.lst []))) (hl : ∀ i ys σ H, i ≤ xs.length → Pv i ys σ H → SqL K H a xs)
    (hs : ∀ i x ys σ H, xs[i]? = some x → H D = some (.lst ys) → Pv i ys σ H → g x σ H fun σ2 H2 => tt σ2 H2 fun b H3 => if b = true then te σ2 H3 fun y H4 => rAppend (.ref D) [y] H4 fun _ H5 => ∃ ys, H5 D = some (.lst ys) ∧ Pv (i + 1) ys σ2 H5 else ∃ ys, H3 D = some (.lst ys) ∧ Pv (i + 1) ys σ2 H3)
    (hd : ∀ ys σ H, H D = some (.lst ys) → Pv xs.length ys σ H → Q (.ref D) H) : CompIt (Itl K a) g tt te D Q σ (upd H D (.lst [])) := comp_list Pv h0 hl hs hd
theorem comp_rangeF {lo : Int} {n : Nat} {g : TG} {tt : TT} {te : TE} {σ : St} {H : Hp} {D : Addr} {Q : VK} (Pv : Nat → List V → St → Hp → Prop) (h0 : Pv 0 [] σ (upd H D (.lst [])))
    (hs : ∀ i ys σ H, i < n → H D = some (.lst ys) → Pv i ys σ H → g (.int (lo + i)) σ H fun σ2 H2 => tt σ2 H2 fun b H3 => if b = true then te σ2 H3 fun y H4 => rAppend (.ref D) [y] H4 fun _ H5 => ∃ ys, H5 D = some (.lst ys) ∧ Pv (i + 1) ys σ2 H5 else ∃ ys, H3 D = some (.lst ys) ∧ Pv (i + 1) ys σ2 H3)
    (hd : ∀ ys σ H, H D = some (.lst ys) → Pv n ys σ H → Q (.ref D) H) : CompIt (Itr lo n) g tt te D Q σ (upd H D (.lst [])) := comp_range Pv h0 hs hd
end L2

/-! Own rules beside the hand layer: zip of three lists. Behind MyMore; needs PyProof.ZipIter. -/
/-! zip of three lists: low part -/
namespace My3
open PySem
abbrev IsTrip (h : Heap) (T : Addr) (a b c : Value) : Prop := h.get? T = some { cls := .type "tuple", data := .seq #[a, b, c] }
structure Apart3 (z TI TO i1 i2 i3 l1 l2 l3 : Addr) : Prop where
  a1 : TI ≠ z
  a2 : TO ≠ z
  a3 : i1 ≠ z
  a4 : i2 ≠ z
  a5 : i3 ≠ z
  b0 : TI ≠ TO
  b1 : TI ≠ i1
  b2 : TI ≠ i2
  b3 : TI ≠ i3
  c1 : TO ≠ i1
  c2 : TO ≠ i2
  c3 : TO ≠ i3
  d12 : i1 ≠ i2
  d13 : i1 ≠ i3
  d23 : i2 ≠ i3
  e1 : ∀ b ∈ [z, TO, i1, i2, i3], l1 ≠ b
  e2 : ∀ b ∈ [z, TO, i1, i2, i3], l2 ≠ b
  e3 : ∀ b ∈ [z, TO, i1, i2, i3], l3 ≠ b
section
variable {P : Program} {w : World} {A : Around} {E : Value → Shared → Prop} {s : Shared}
/-! making it -/
abbrev it0 (l : Addr) : Obj := { cls := .type "list_iterator", data := .fields #[.ref l, .int 0 0] }
abbrev zh1 (h : Heap) (l1 : Addr) : Heap := h.push (it0 l1)
abbrev zh2 (h : Heap) (l1 l2 : Addr) : Heap := (zh1 h l1).push (it0 l2)
abbrev zh3 (h : Heap) (l1 l2 l3 : Addr) : Heap := (zh2 h l1 l2).push (it0 l3)
abbrev zh4 (h : Heap) (l1 l2 l3 : Addr) : Heap := (zh3 h l1 l2 l3).push { cls := .type "tuple", data := .seq #[.ref h.objs.size, .ref (zh1 h l1).objs.size, .ref (zh2 h l1 l2).objs.size] }
abbrev zh5 (h : Heap) (l1 l2 l3 : Addr) : Heap := (zh4 h l1 l2 l3).push { cls := .type "tuple", data := .seq #[.none, .none, .none] }
abbrev zh6 (h : Heap) (l1 l2 l3 : Addr) : Heap := (zh5 h l1 l2 l3).push { cls := .type "zip", data := .fields #[.none, .bool false, .bool false, .ref (zh3 h l1 l2 l3).objs.size, .ref (zh4 h l1 l2 l3).objs.size] }
end
end My3
namespace L2
open PySem PySem.Spec PyProof.Rows My3
/-! ### zip of three lists, walked; the first is the shortest -/
def Itz3 (K : PySem.W.Frag) (p q r : Addr) : It where
  go := fun i H => ∃ xs ys zs a b c, SqL K H p xs ∧ SqL K H q ys ∧ SqL K H r zs ∧ xs[i]? = some a ∧ ys[i]? = some b ∧ zs[i]? = some c
  yld := fun i H x H' => ∃ t a b c, x = .ref t ∧ H t = none ∧ H' = upd H t (.tup [a, b, c]) ∧ (∀ xs, SqL K H p xs → xs[i]? = some a) ∧ (∀ ys, SqL K H q ys → ys[i]? = some b) ∧ ∀ zs, SqL K H r zs → zs[i]? = some c
  stop := fun i H => ∃ xs, SqL K H p xs ∧ i = xs.length
def tn3 (z TI TO i1 i2 i3 p q r : Addr) (i : Nat) (h : Heap) : Prop := IsZip h z TI TO .none ∧ IsTrip h TI (.ref i1) (.ref i2) (.ref i3) ∧ (∃ a b c, IsTrip h TO a b c) ∧ h.IsListIter i1 p i ∧ h.IsListIter i2 q i ∧ h.IsListIter i3 r i
def iZip3 (K : PySem.W.Frag) (ta : TA) : TI := fun σ H R => ta σ H fun vs H1 => ∃ p q r, vs = [.ref p, .ref q, .ref r] ∧ (∃ xs, SqL K H1 p xs) ∧ (∃ ys, SqL K H1 q ys) ∧ (∃ zs, SqL K H1 r zs) ∧ R (Itz3 K p q r) H1
end L2

/-! Own rules beside the hand layer: insert, max and min of a list of numbers. Behind MyZip3; needs PyProof.WalkInts, PyProof.SeqI3, PyProof.AutoSeq1. -/
namespace L2
open PySem PySem.Spec PyProof.Rows
section
variable {X : Cx}
def rInsert : V → List V → Hp → VK → Prop := fun x vs H Q => ∃ l xs k y, x = .ref l ∧ vs = [.int k, y] ∧ H l = some (.lst xs) ∧ 0 ≤ k ∧ k ≤ (xs.length : Int) ∧ xs.length < 1000000 ∧ Q .non (upd H l (.lst (xs.take k.toNat ++ y :: xs.drop k.toNat)))
theorem vals_take {xs : List V} {us : List Value} (r : Vals xs us) : ∀ n : Nat, Vals (xs.take n) (us.take n) ∧ Vals (xs.drop n) (us.drop n) := by
  induction r with
  | nil => intro n; rw [List.take_nil, List.take_nil, List.drop_nil, List.drop_nil]; exact ⟨.nil, .nil⟩
  | cons h t ih =>
    intro n
    cases n with
    | zero => exact ⟨.nil, .cons h t⟩
    | succ n => exact ⟨.cons h (ih n).1, (ih n).2⟩
theorem mt_insert : MtM X "list.insert" rInsert := by
  intro pins s σ H x vs v us Q I rx rv h
  obtain ⟨l, xs, k, y, rfl, rfl, hH, k0, k1, hz, q⟩ := h
  cases rx
  obtain ⟨u, w, rfl, ru, rw'⟩ := vals2 rv
  obtain ⟨tk, rfl⟩ := ru
  obtain ⟨z, its, n, r, hl, e⟩ := I.lstM hH
  have lr := r.length
  have fit : ¬(!Builtin.List.listFitsIndex k) = true := by
    have : Builtin.List.listFitsIndex k = true := by
      unfold Builtin.List.listFitsIndex
      simp only [Bool.and_eq_true, decide_eq_true_eq]
      omega
    rw [this]
    decide
  refine call_meets F.slot_list_insert ⟨_, e, rfl⟩ F.entry_list_insert (F.args_list_insert_3 _ _ _) (AutoSeq1.list_insert_list_int_val_1 l its.toArray n k tk w fit (by rw [List.size_toArray]; omega)) ⟨e, ?_⟩
  refine ⟨.non, _, I.lset (its' := its.take k.toNat ++ w :: its.drop k.toNat) hH e ?_ ((vals_take r _).1.append (.cons rw' (vals_take r _).2)) ?_, rfl, q⟩
  · have e1 : (if k < 0 then (k + (its.toArray.size : Int)).toNat else min k.toNat its.toArray.size) = k.toNat := by
      rw [if_neg (by omega), List.size_toArray, ← lr]
      omega
    simp only [e1]
    apply Array.toList_inj.mp
    simp
    exact List.take_of_length_le (by rw [List.length_drop]; exact Nat.le_refl _)
  · rw [List.length_append, List.length_cons, List.length_take, List.length_drop]
    have : (1000000 : Nat) ≤ sizeLine := by decide
    omega
def rMaxL (K : PySem.W.Frag) : List V → Hp → VK → Prop := fun xs H Q => ∃ (p : Addr) (ns : List Int), xs = [.ref p] ∧ SqL K H p (ns.map V.int) ∧ 0 < ns.length ∧ ∀ m, m ∈ ns → (∀ a ∈ ns, a ≤ m) → Q (.int m) H
def rMinL (K : PySem.W.Frag) : List V → Hp → VK → Prop := fun xs H Q => ∃ (p : Addr) (ns : List Int), xs = [.ref p] ∧ SqL K H p (ns.map V.int) ∧ 0 < ns.length ∧ ∀ m, m ∈ ns → (∀ a ∈ ns, m ≤ a) → Q (.int m) H
theorem getD_in {ns : List Int} {i : Nat} (h : i < ns.length) : ns.getD i 0 ∈ ns := by
  rw [getD_at h]
  exact List.getElem_mem h
theorem in_getD {ns : List Int} {a : Int} (h : a ∈ ns) : ∃ i, i < ns.length ∧ a = ns.getD i 0 := by
  obtain ⟨i, hi, e⟩ := List.getElem_of_mem h
  exact ⟨i, hi, by rw [getD_at hi, e]⟩
theorem call_maxL (hc : X.calm = true) : CallR X (.builtin "max") (rMaxL X.K) := by
  intro pins s σ H xs us Q I r h
  obtain ⟨p, ns, rfl, hl, hn, q⟩ := h
  obtain ⟨u, rfl, ru⟩ := r.one
  cases ru
  obtain ⟨its, rv, pl, _⟩ := I.list hl
  have l := rv.length
  rw [List.length_map] at l
  obtain ⟨o, n, e, _⟩ := id pl
  have hlt := Heap.lt_size e
  have hne : p ≠ s.heap.objs.size := Nat.ne_of_lt hlt
  refine call_max_walk (wpAny_pyIter_list pl.isList ?_)
  refine ⟨s.heap.objs.size, _, _, _, _, _, _, rfl, Walks.list (A := X.A.in1) (I.ok.hd hc) _ p hne its.toArray, ⟨⟨_, Heap.get?_push_size _ rfl, rfl, rfl⟩, ?_⟩, fun b hb => ?_, by rw [List.size_toArray]; omega, CmpOf.ints_gt (fun i => ns.getD i 0) (fun i v hv => val_int rv hv), fun v h' tk hv hk => ?_⟩
  · exact pl.isList.at fun o e => Heap.get?_push_of_some _ e
  · rw [Heap.size_push]
    rcases List.mem_cons.mp hb with z | z
    · rw [z]; exact Nat.lt_succ_self _
    · have z' : b = p := by simpa using z
      rw [z']; exact Nat.lt_succ_of_lt hlt
  · obtain ⟨t, rfl⟩ := val_int rv hv
    obtain ⟨b1, b2⟩ := argBest_gt (fun i => ns.getD i 0) (its.toArray.size - 1)
    rw [List.size_toArray] at b1 b2
    refine ⟨.int _, H, I.kept fun b u eb => hk b u (fun z => Nat.ne_of_lt (Heap.lt_size eb) (by simpa using z)) (Heap.get?_push_of_some _ eb), ⟨t, rfl⟩, q _ (getD_in (by rw [List.size_toArray]; omega)) fun a ha => ?_⟩
    obtain ⟨j, hj, rfl⟩ := in_getD ha
    exact b2 j (by omega)
end
end L2

/-! Own rules beside the hand layer: xs[::-1]. Behind MyMeth; needs KE.KRevSl. -/
namespace L2
open PySem PySem.Spec PyProof.Rows
/-- xs[::-1] -/
def tRev (K : PySem.W.Frag) (te : TE) (tk : TO) : TE := fun σ H Q => te σ H fun x H1 => tk σ H1 fun k H2 => k = some (-1) ∧ ∃ a xs, x = .ref a ∧ SqL K H2 a xs ∧ ∀ p, H2 p = none → Q (.ref p) (upd H2 p (.lst xs.reverse))
section
variable {X : Cx} {e : Expr} {te : TE} {st : Expr} {tk : TO} {p2 pos : Pos}
theorem pe_rev (he : PE X e te) (hk : PO X (some st) tk) : PE X (.Subscript e (.Slice none none (some st) p2) pos) (tRev X.K te tk) := by
  intro pins s σ H Q I h
  refine Subscript_ (thn (he pins s σ H _ I h) fun v s1 ⟨x, H1, I1, r1, q1⟩ => ?_)
  refine wpAny_Slice ?_
  rw [evalPart_none]
  refine wpAny_pure (wpAny_pure (thn (hk pins s1 σ H1 _ I1 q1) fun vk s3 ⟨k, H3, I3, pk, q3⟩ => ?_))
  obtain ⟨rfl, a, xs, rfl, hx, q⟩ := q3
  cases r1
  have I4 : Inv X pins σ H3 { s3 with heap := s3.heap.push { cls := .type "slice", data := .fields #[.none, .none, vk] } } := I3.kept (t' := s3.toks) fun b ob q => Heap.get?_push_of_some _ q
  obtain ⟨its, r, ht, hz⟩ := I4.list hx
  have hlen := r.length
  refine tail_any (ops := [.ref a, .ref s3.heap.objs.size]) ht.isList.typeIs slot_list_getitem.lookup ?_ (by with_unfolding_all rfl)
  refine wpAny_getItem_list_slice ht.isList (Heap.IsSliceOf.new ..) .none .none pk (by decide) ?_ (by rw [List.size_toArray] <;> omega)
  rw [PySem.W.krv_pick]
  refine ⟨.ref _, _, I4.laid (t' := s3.toks) (o := .lst xs.reverse) (fun b ob q => Heap.get?_push_of_some _ q) (Nat.le_refl _) ?_, rfl, q _ (I4.hok.fresh (Nat.le_refl _))⟩
  exact ⟨by rw [List.length_reverse]; exact hz, _, 0, r.reverse, Heap.get?_push_size _ rfl⟩
end
end L2

/-! Own rules beside the hand layer: isinstance(e, (A, B, ..)) of a caught exception. Behind MyRev. -/
namespace L2
open PySem PySem.Spec PyProof.Rows
/-- the classes of a tuple -/
def clsVs : List V → Option (List Value)
  | [] => some []
  | v :: vs => (clsV v).bind fun c => (clsVs vs).map fun cs => c :: cs
def rIsiT (K : PySem.W.Frag) : List V → Hp → VK → Prop := fun xs H Q => ∃ (a tp : Addr) (cs : List V) (c : Value) (cvs : List Value) (b : Bool), xs = [.ref a, .ref tp] ∧ H a = some (excO a c) ∧ ExcCls K c ∧ SqT K H tp cs ∧ clsVs cs = some cvs ∧ PySem.W.kitAny K c cvs = some b ∧ Q (.bl b) H
section
variable {X : Cx}
end
end L2

/-! Own rules beside the hand layer: enumerate of a list, walked. Behind MyIsT; needs PyProof.WalksEnum, PyProof.EnumMake. -/
namespace L2
open PySem PySem.Spec PyProof.Rows
theorem bootEnum : bootBuiltins "enumerate" = some (.type "enumerate") := by decide +kernel
def Ite (K : PySem.W.Frag) (p : Addr) : It where
  go := fun i H => ∃ xs a, SqL K H p xs ∧ xs[i]? = some a
  yld := fun i H x H' => ∃ t a, x = .ref t ∧ H t = none ∧ H' = upd H t (.tup [.int (i : Int), a]) ∧ ∀ xs, SqL K H p xs → xs[i]? = some a
  stop := fun i H => ∃ xs, SqL K H p xs ∧ i = xs.length
def tnE (e it p : Addr) (i : Nat) (h : Heap) : Prop := (∃ old, IsEnum h e it i old) ∧ h.IsListIter it p i
theorem tnE_there {e it p : Addr} {i : Nat} {h : Heap} (st : tnE e it p i h) : ∀ b ∈ [e, it], ∃ o, h.get? b = some o ∧ ∀ v, o.data ≠ .cell v := fun b hb => by
  obtain ⟨⟨old, a1⟩, ⟨o2, a2, _, d2⟩⟩ := st
  simp only [List.mem_cons, List.not_mem_nil, or_false] at hb
  rcases hb with rfl | rfl
  · exact ⟨_, a1, fields_nocell rfl⟩
  · exact ⟨_, a2, fields_nocell d2⟩
theorem turn_enum {P : Program} {w : World} {K : PySem.W.Frag} {elts : List Expr} {k : Nat} {pos : Pos} {e it p : Addr} (d1 : e ≠ it) (d2 : p ≠ e) (d3 : p ≠ it) : Turn P w K (.Tuple elts k pos) (Ite K p) [e, it] e (tnE e it p) where
  mem := by simp
  obj := fun i h st => tnE_there st
  keep := fun i h h' st kk => by
    obtain ⟨⟨old, a1⟩, a2⟩ := st
    exact ⟨⟨old, kk e (by simp) _ a1⟩, a2.at fun o x => kk it (by simp) o x⟩
  item := by
    intro X hP hw hK hc i pins s σ H E I hf st hg
    subst hP hw hK
    obtain ⟨xs, a, hx, ea⟩ := hg
    obtain ⟨its, r1, pl1, z1⟩ := I.list hx
    obtain ⟨ua, eua, rua⟩ := r1.get ea
    have there := tnE_there st
    obtain ⟨s1, s2⟩ := st
    have W := WalksT.enumerate (prog := X.prog) (w := X.w) (A := X.A) (I.ok.hd hc) e it p d1 d2 d3 its.toArray
    have hi : i < its.toArray.size := by
      have h1 := (List.getElem?_eq_some_iff.mp eua).1
      rw [List.size_toArray]
      exact h1
    refine W.item i s _ _ hi ⟨s1, s2, pl1.isList⟩ fun T vals h' tk hp hT hTup mid kk => ⟨_, rfl, ?_⟩
    obtain ⟨t, u, e1, rfl⟩ := hp
    have e1' : u = ua := by
      have : its[i]? = some u := by simpa using e1
      rw [eua] at this; cases this; rfl
    subst e1'
    refine W.go elts k pos i T { s with heap := h', toks := tk } _ _ mid fun h2 st2 kk2 => ?_
    obtain ⟨t1, t2, _⟩ := st2
    have I1 : Inv X pins σ H { s with heap := h2, toks := tk } := I.turns (ch := [e, it]) (fun b o hb q => kk2 b o hb (kk b o hb q)) fun b hb => hf b hb
    have nT : H T = none := I.hok.fresh hT
    have I2 := I1.track (a := T) (o := .tup [.int (i : Int), a]) nT (Heap.get?_none_of_le (Nat.le_trans I.sz hT)) (Nat.ne_of_gt (Nat.lt_of_lt_of_le I.lt hT)) (fun x c q => by
      obtain ⟨v, z⟩ := I.cell x c q
      exact Nat.ne_of_lt (Nat.lt_of_lt_of_le z.lt hT)) (fun y hy => Nat.ne_of_lt (Nat.lt_of_lt_of_le (Heap.lt_size (I.pin y hy).1) hT)) (by
      refine ⟨by show 2 ≤ sizeLine; decide, [.int i t, u], .cons ⟨t, rfl⟩ (.cons rua .nil), ?_⟩
      obtain ⟨o, ho, hcl, hd⟩ := hTup
      exact ⟨o, kk2 T o (W.apart i T h' mid) ho, hcl, hd⟩)
    refine ⟨.ref T, _, I2, rfl, ⟨T, a, rfl, nT, rfl, fun xs' h' => ?_⟩, ⟨t1, t2⟩, fun b hb => ?_⟩
    · rw [I.list_inj h' hx]; exact ea
    · obtain ⟨o, q, _⟩ := there b hb
      rw [upd_ne (Nat.ne_of_lt (Nat.lt_of_lt_of_le (Heap.lt_size q) hT))]
      exact (hf b hb).1
  done := by
    intro X hP hw hK hc i pins s σ H E I hf st hg
    subst hP hw hK
    obtain ⟨xs, hx, rfl⟩ := hg
    obtain ⟨its, r1, pl1, z1⟩ := I.list hx
    obtain ⟨s1, s2⟩ := st
    have W := WalksT.enumerate (prog := X.prog) (w := X.w) (A := X.A) (I.ok.hd hc) e it p d1 d2 d3 its.toArray
    refine W.done s _ _ ?_ fun h' tk kk => ⟨rfl, I.turns (ch := [e, it]) (fun b o hb q => kk b o hb q) fun b hb => hf b hb⟩
    rw [List.size_toArray, ← r1.length]
    exact ⟨s1, s2, pl1.isList⟩
  self := fun A i s Q E st h => by
    obtain ⟨⟨old, a1⟩, _⟩ := st
    exact wpAny_pyIter_enum a1 h
def iEnum (K : PySem.W.Frag) (ta : TA) : TI := fun σ H R => ta σ H fun vs H1 => ∃ p, vs = [.ref p] ∧ (∃ xs, SqL K H1 p xs) ∧ R (Ite K p) H1
theorem pi_enum {X : Cx} {a : Expr} {elts : List Expr} {k : Nat} {tp p pos : Pos} {ta : TA} (hg : Gl X "enumerate") (hm : X.mg "enumerate" = none) (ha : PA X [a] ta) (hs : starEach [a] X.env = [(false, eval a X.env)] := by rfl) :
    PI X (.Tuple elts k tp) (.Call (.Name "enumerate" p) [a] [] pos) (iEnum X.K ta) := by
  intro pins s σ H R I h
  refine Call_ (ld_blt I hg hm bootEnum (PyProof.Rows.callWith_type1 (thn (ha pos pins s σ H _ I h) fun us s1 ⟨vs, H1, I1, r1, q1⟩ => ?_) (by rw [hs]; rfl) rfl))
  obtain ⟨p1, rfl, ⟨xs, hx⟩, q⟩ := q1
  obtain ⟨u, rfl, ru⟩ := r1.one
  cases ru
  obtain ⟨its, _, pl1, _⟩ := I1.list hx
  have a1 : p1 < s1.heap.objs.size := by obtain ⟨_, e, _⟩ := pl1.isList; exact Heap.lt_size e
  refine call_enumerate_list pl1.isList fun h' he hi hsz hk => ?_
  refine wpAny_pyIter_enum he ?_
  refine ⟨_, _, _, _, H1, rfl, I1.kept (t' := s1.toks) hk, turn_enum (Nat.succ_ne_self _) (Nat.ne_of_lt (Nat.lt_succ_of_lt a1)) (Nat.ne_of_lt a1), ⟨⟨_, he⟩, hi⟩, fun b hb => ?_, q⟩
  have hb' : s1.heap.objs.size ≤ b := by
    simp only [List.mem_cons, List.not_mem_nil, or_false] at hb
    rcases hb with h | h <;> rw [h] <;> first | exact Nat.le_refl _ | exact Nat.le_add_right _ _
  exact I1.fpOk hb' (I1.hok.fresh hb')
theorem for_enumF {K : PySem.W.Frag} {p : Addr} {xs : List V} {g : TG} {tb : TS} {D : Ends} {σ : St} {H : Hp} (Pv : Nat → St → Hp → Prop) (h0 : Pv 0 σ H) (hl : ∀ i σ H, i ≤ xs.length → Pv i σ H → SqL K H p xs)
    (hs : ∀ i x t σ H, xs[i]? = some x → Pv i σ H → H t = none → g (.ref t) σ (upd H t (.tup [.int (i : Int), x])) fun σ2 H2 => tb { D with nx := Pv (i + 1), ct := Pv (i + 1), bk := D.nx } σ2 H2) (hd : ∀ σ H, Pv xs.length σ H → D.nx σ H) : ForIt (Ite K p) g tb D σ H := by
  refine ⟨fun i m σ H => m = xs.length - i ∧ i ≤ xs.length ∧ Pv i σ H, ⟨_, rfl, Nat.zero_le _, h0⟩, ?_⟩
  rintro i m σ H ⟨rfl, hi, pv⟩
  have hx := hl i σ H hi pv
  by_cases hlt : i < xs.length
  · refine .inr ⟨⟨xs, xs[i], hx, by simp [hlt]⟩, Pv (i + 1), fun σ' H' p' => ⟨_, by omega, rfl, hlt, p'⟩, fun x H' yl => ?_⟩
    obtain ⟨t, a, rfl, ht, rfl, e1⟩ := yl
    exact hs i a t σ H (e1 xs hx) pv ht
  · have e : i = xs.length := by omega
    subst e
    exact .inl ⟨⟨xs, hx, rfl⟩, hd σ H pv⟩
end L2

namespace L2
open PySem PySem.Spec PyProof.Rows
/-! ### lists of pairs as tables -/
section
variable {κ : Type} [DecidableEq κ]
def valV (kvs : List (κ × V)) (k : κ) : Option V := (kvs.find? fun kv => decide (kv.1 = k)).map (·.2)
/-- in its place, or at the end -/
def putK (kvs : List (κ × V)) (k : κ) (v : V) : List (κ × V) :=
  if (kvs.any fun kv => decide (kv.1 = k)) = true then kvs.map (fun kv => if kv.1 = k then (kv.1, v) else kv) else kvs ++ [(k, v)]
def dropK (kvs : List (κ × V)) (k : κ) : List (κ × V) := kvs.filter fun kv => decide (kv.1 ≠ k)

theorem valV_nil {k : κ} : valV ([] : List (κ × V)) k = none := rfl
theorem valV_pos {p : κ × V} {r : List (κ × V)} {k : κ} (e : p.1 = k) : valV (p :: r) k = some p.2 := by simp [valV, List.find?_cons, e]
theorem valV_neg {p : κ × V} {r : List (κ × V)} {k : κ} (e : ¬ p.1 = k) : valV (p :: r) k = valV r k := by simp [valV, List.find?_cons, e]
theorem valV_any (k : κ) : ∀ kvs : List (κ × V), (kvs.any fun kv => decide (kv.1 = k)) = (valV kvs k).isSome
  | [] => rfl
  | p :: r => by
    rw [List.any_cons]
    by_cases e : p.1 = k
    · simp only [valV_pos e, decide_eq_true e, Bool.true_or, Option.isSome_some]
    · rw [valV_neg e, decide_eq_false e, Bool.false_or]; exact valV_any k r
theorem valV_map (k j : κ) (y : V) : ∀ kvs : List (κ × V), valV (kvs.map fun kv => if kv.1 = k then (kv.1, y) else kv) j = (valV kvs j).map fun x => if j = k then y else x
  | [] => rfl
  | p :: r => by
    have ih := valV_map k j y r
    rw [List.map_cons]
    by_cases h : p.1 = k
    · rw [if_pos h]
      by_cases e : p.1 = j
      · rw [valV_pos (p := (p.1, y)) e, valV_pos e, Option.map_some, if_pos (e.symm.trans h)]
      · rw [valV_neg (p := (p.1, y)) e, valV_neg e, ih]
    · rw [if_neg h]
      by_cases e : p.1 = j
      · rw [valV_pos (p := p) e, valV_pos e, Option.map_some, if_neg (fun z => h (e.trans z))]
      · rw [valV_neg (p := p) e, valV_neg e, ih]
theorem valV_snoc (k j : κ) (y : V) : ∀ kvs : List (κ × V), valV kvs k = none → valV (kvs ++ [(k, y)]) j = if j = k then some y else valV kvs j
  | [], _ => by
    by_cases e : k = j
    · rw [if_pos e.symm]; exact valV_pos (p := (k, y)) e
    · rw [if_neg (fun z => e z.symm)]; exact valV_neg (p := (k, y)) e
  | p :: r, hn => by
    rw [List.cons_append]
    have hk : ¬ p.1 = k := fun z => by rw [valV_pos z] at hn; cases hn
    rw [valV_neg hk] at hn
    have ih := valV_snoc k j y r hn
    by_cases e : p.1 = j
    · rw [valV_pos e, valV_pos e, if_neg (fun z => hk (e.trans z))]
    · rw [valV_neg e, valV_neg e, ih]
theorem valV_put (kvs : List (κ × V)) (k j : κ) (y : V) : valV (putK kvs k y) j = if j = k then some y else valV kvs j := by
  unfold putK
  by_cases a : (kvs.any fun kv => decide (kv.1 = k)) = true
  · rw [if_pos a, valV_map]
    rw [valV_any] at a
    by_cases e : j = k
    · obtain ⟨x, hx⟩ := Option.isSome_iff_exists.mp a
      rw [if_pos e, e, hx, Option.map_some, if_pos rfl]
    · rw [if_neg e]
      cases valV kvs j with
      | none => rfl
      | some x => rw [Option.map_some, if_neg e]
  · rw [if_neg a]
    refine valV_snoc k j y kvs ?_
    rw [valV_any] at a
    cases q : valV kvs k with
    | none => rfl
    | some x => rw [q] at a; exact (a rfl).elim
theorem length_putK (kvs : List (κ × V)) (k : κ) (v : V) : (putK kvs k v).length ≤ kvs.length + 1 := by
  unfold putK
  split
  · rw [List.length_map]; omega
  · rw [List.length_append, List.length_cons, List.length_nil]; omega
theorem putK_new {kvs : List (κ × V)} {k : κ} (v : V) (h : valV kvs k = none) : putK kvs k v = kvs ++ [(k, v)] := by
  unfold putK
  rw [valV_any, h]
  exact if_neg (by decide)

theorem RelO.isSome_eq {o : Option V} {u : Option Value} (r : RelO o u) : o.isSome = u.isSome := by
  cases o with
  | none => cases u with
    | none => rfl
    | some _ => exact (show False from r).elim
  | some _ => cases u with
    | none => exact (show False from r).elim
    | some _ => rfl
theorem RelO.getD {o : Option V} {u : Option Value} {d : V} {d' : Value} (r : RelO o u) (rd : RelV d d') : RelV (o.getD d) (u.getD d') := by
  cases o with
  | none => cases u with
    | none => exact rd
    | some _ => exact (show False from r).elim
  | some _ => cases u with
    | none => exact (show False from r).elim
    | some _ => exact r

/-- raw tables of the same keys -/
theorem KV.val {kvs : List (κ × V)} {vs : List (κ × Value)} (r : KV kvs vs) (k : κ) : RelO (valV kvs k) (valueAt vs k) := by
  unfold KV at r
  induction r with
  | nil => exact True.intro
  | @cons p q ps qs h t ih =>
    obtain ⟨h1, h2⟩ := h
    by_cases e : p.1 = k
    · have e' : q.1 = k := h1.symm.trans e
      have b : valueAt (q :: qs) k = some q.2 := by simp [valueAt, List.find?_cons, e']
      rw [valV_pos e, b]; exact h2
    · have e' : ¬ q.1 = k := fun z => e (h1.trans z)
      have b : valueAt (q :: qs) k = valueAt qs k := by simp [valueAt, List.find?_cons, e']
      rw [valV_neg e, b]; exact ih
theorem KV.any {kvs : List (κ × V)} {vs : List (κ × Value)} (r : KV kvs vs) (k : κ) : (kvs.any fun kv => decide (kv.1 = k)) = vs.any fun kv => decide (kv.1 = k) := by
  unfold KV at r
  induction r with
  | nil => rfl
  | cons h t ih => rw [List.any_cons, List.any_cons, ih, h.1]
theorem KV.repl {kvs : List (κ × V)} {vs : List (κ × Value)} (r : KV kvs vs) (k : κ) {y : V} {u : Value} (ry : RelV y u) :
    KV (kvs.map fun kv => if kv.1 = k then (kv.1, y) else kv) (vs.map fun kv => if kv.1 = k then (kv.1, u) else kv) := by
  unfold KV at r ⊢
  induction r with
  | nil => exact .nil
  | @cons p q ps qs h t ih =>
    rw [List.map_cons, List.map_cons]
    refine .cons ?_ ih
    obtain ⟨h1, h2⟩ := h
    by_cases e : p.1 = k
    · rw [if_pos e, if_pos (h1.symm.trans e)]; exact ⟨h1, ry⟩
    · rw [if_neg e, if_neg (fun z => e (h1.trans z))]; exact ⟨h1, h2⟩
theorem KV.put {kvs : List (κ × V)} {vs : List (κ × Value)} (r : KV kvs vs) (k : κ) {y : V} {u : Value} (ry : RelV y u) : KV (putK kvs k y) (stored vs k u) := by
  unfold putK stored
  rw [r.any k]
  by_cases e : (vs.any fun kv => decide (kv.1 = k)) = true
  · rw [if_pos e, if_pos e]; exact r.repl k ry
  · rw [if_neg e, if_neg e]; exact Paired.snoc r ⟨rfl, ry⟩
theorem KV.keys {kvs : List (κ × V)} {vs : List (κ × Value)} (r : KV kvs vs) : kvs.map (·.1) = vs.map (·.1) := by
  unfold KV at r
  induction r with
  | nil => rfl
  | cons h t ih => rw [List.map_cons, List.map_cons, ih, h.1]
theorem KV.length {kvs : List (κ × V)} {vs : List (κ × Value)} (r : KV kvs vs) : kvs.length = vs.length := Paired.length r
end


/-! ### a tracked dict, its keys ints and texts or tuples of these -/
theorem kV_is {P : Program} {w : World} {k : Key} {u : Value} (r : RelV (kV k) u) : (mixKind P w).is k u = true := by
  cases k with
  | inl i => obtain ⟨t, e⟩ := (show ∃ t, u = Value.int i t from r); subst e; exact mixKind_int P w i t
  | inr x => obtain ⟨t, e⟩ := (show ∃ t, u = Value.str x t from r); subst e; exact mixKind_str P w x t
theorem items_are {P : Program} {w : World} : ∀ {ks : List Key} {us : List Value}, Vals (ks.map kV) us → ItemsAre (mixKind P w) ks us
  | [], _, r => by rw [List.map_nil] at r; cases r; exact .nil
  | k :: ks, _, r => by
    rw [List.map_cons] at r
    cases r with
    | cons h t => exact .cons (kV_is h) (items_are t)

/-- raw entries of a dict with tuple keys -/
abbrev KT (H : Hp) : List (List Key × V) → List (List Key × Addr × Value) → Prop := Paired fun p q => p.1 = q.1 ∧ H q.2.1 = some (.tup (p.1.map kV)) ∧ RelV p.2 q.2.2
theorem KT.val {H : Hp} {kvs : List (List Key × V)} {xs : List (List Key × Addr × Value)} (r : KT H kvs xs) (k : List Key) : RelO (valV kvs k) ((atKey xs k).map (·.2)) := by
  induction r with
  | nil => exact True.intro
  | @cons p q ps qs h t ih =>
    obtain ⟨h1, _, h2⟩ := h
    by_cases e : p.1 = k
    · have e' : q.1 = k := h1.symm.trans e
      have b : atKey (q :: qs) k = some q.2 := by simp [atKey, List.find?_cons, e']
      rw [valV_pos e, b]; exact h2
    · have e' : ¬ q.1 = k := fun z => e (h1.trans z)
      have b : atKey (q :: qs) k = atKey qs k := by simp [atKey, List.find?_cons, e']
      rw [valV_neg e, b]; exact ih
theorem KT.repl {H : Hp} {kvs : List (List Key × V)} {xs : List (List Key × Addr × Value)} (r : KT H kvs xs) (k : List Key) {y : V} {u : Value} (ry : RelV y u) :
    KT H (kvs.map fun kv => if kv.1 = k then (kv.1, y) else kv) (xs.map (putAt k u)) := by
  induction r with
  | nil => exact .nil
  | @cons p q ps qs h t ih =>
    rw [List.map_cons, List.map_cons]
    refine .cons ?_ ih
    obtain ⟨h1, h2, h3⟩ := h
    unfold putAt
    by_cases e : p.1 = k
    · rw [if_pos e, if_pos (h1.symm.trans e)]; exact ⟨h1, h2, ry⟩
    · rw [if_neg e, if_neg (fun z => e (h1.trans z))]; exact ⟨h1, h2, h3⟩
theorem KT.put {H : Hp} {kvs : List (List Key × V)} {xs : List (List Key × Addr × Value)} (r : KT H kvs xs) (k : List Key) {b : Addr} {y : V} {u : Value} (hb : H b = some (.tup (k.map kV))) (ry : RelV y u) :
    KT H (putK kvs k y) (storedH xs k b u) := by
  have e : (kvs.any fun kv => decide (kv.1 = k)) = (atKey xs k).isSome := by
    rw [valV_any, (r.val k).isSome_eq, Option.isSome_map]
  unfold putK storedH
  rw [e]
  by_cases q : (atKey xs k).isSome = true
  · rw [if_pos q, if_pos q]; exact r.repl k ry
  · rw [if_neg q, if_neg q]; exact Paired.snoc r ⟨rfl, hb, ry⟩
theorem KT.keeps {H H' : Hp} {kvs : List (List Key × V)} {xs : List (List Key × Addr × Value)} (r : KT H kvs xs) (ht : ∀ b ys, H b = some (.tup ys) → H' b = some (.tup ys)) : KT H' kvs xs :=
  Paired.mapP r fun _ _ z => ⟨z.1, ht _ _ z.2.1, z.2.2⟩

section
variable {P : Program} {w : World} {H : Hp} {h : Heap} {a : Addr}
theorem rd_of {u : HO} (ok : HOk P w H h) (e : Rd H a u) : ObjOk P w H h a u := e.ok ok
theorem dk_rd {kvs : List (Key × V)} (ok : HOk P w H h) (e : Rd H a (.dK kvs)) : kvs.length ≤ sizeLine ∧ (a == sysModules) = false ∧ ∃ vs, KV kvs vs ∧ h.DictOf (mixKind P w) a vs :=
  show ObjOk P w H h a (.dK kvs) from rd_of ok e
theorem dk_of {kvs : List (Key × V)} (ok : HOk P w H h) (e : H a = some (.dK kvs)) : kvs.length ≤ sizeLine ∧ (a == sysModules) = false ∧ ∃ vs, KV kvs vs ∧ h.DictOf (mixKind P w) a vs := dk_rd ok (.inl e)
/-- a tracked tuple of ints and texts is a key -/
theorem key_of {ks : List Key} (ok : HOk P w H h) (e : H a = some (.tup (ks.map kV))) : (tupleKind (mixKind P w)).is h ks a := by
  obtain ⟨_, its, r, o, h1, h2, n, h3⟩ := (show ObjOk P w H h a (.tup (ks.map kV)) from ok a _ e)
  exact ⟨o, its.toArray, n, h1, h2, h3, by simpa using items_are r⟩
theorem dt_rd {kvs : List (List Key × V)} (ok : HOk P w H h) (e : Rd H a (.dT kvs)) : kvs.length ≤ sizeLine ∧ (a == sysModules) = false ∧
    ∃ xs, KT H kvs xs ∧ h.DictOfH (tupleKind (mixKind P w)) a xs := by
  obtain ⟨z, y, xs, r, o, es, ep, h1, h2, h3, h4, h5⟩ := (show ObjOk P w H h a (.dT kvs) from rd_of ok e)
  refine ⟨z, y, xs, r, o, es, ep, h1, h2, h3, h4, fun x hx => ?_, h5⟩
  have all : ∀ {l : List (List Key × V)} {m : List (List Key × Addr × Value)}, KT H l m → ∀ x ∈ m, (tupleKind (mixKind P w)).is h x.1 x.2.1 := by
    intro l m q
    induction q with
    | nil => intro x hx; exact nomatch hx
    | @cons p q ps qs hq t ih =>
      intro x hx
      rcases List.mem_cons.mp hx with e | hx
      · subst e
        exact key_of ok (by rw [← hq.1]; exact hq.2.1)
      · exact ih x hx
  exact all r x hx
theorem dt_of {kvs : List (List Key × V)} (ok : HOk P w H h) (e : H a = some (.dT kvs)) : kvs.length ≤ sizeLine ∧ (a == sysModules) = false ∧
    ∃ xs, KT H kvs xs ∧ h.DictOfH (tupleKind (mixKind P w)) a xs := dt_rd ok (.inl e)
end

/-- what the dict at a holds at the key y -/
def DGet (H : Hp) (a : Addr) (y : V) (r : Option V) : Prop :=
  (∃ kvs k, Rd H a (.dK kvs) ∧ y = kV k ∧ r = valV kvs k) ∨ ∃ kvs k b, Rd H a (.dT kvs) ∧ y = .ref b ∧ H b = some (.tup (k.map kV)) ∧ r = valV kvs k
/-- the heap behind a[y] = v -/
def DPut (H : Hp) (a : Addr) (y v : V) (H' : Hp) : Prop :=
  (∃ kvs k, H a = some (.dK kvs) ∧ y = kV k ∧ kvs.length < sizeLine ∧ H' = upd H a (.dK (putK kvs k v))) ∨
  ∃ kvs k b, H a = some (.dT kvs) ∧ y = .ref b ∧ H b = some (.tup (k.map kV)) ∧ kvs.length < sizeLine ∧ H' = upd H a (.dT (putK kvs k v))
theorem DGet.k {H : Hp} {a : Addr} {kvs : List (Key × V)} {k : Key} (e : H a = some (.dK kvs)) : DGet H a (kV k) (valV kvs k) := .inl ⟨kvs, k, .inl e, rfl, rfl⟩
theorem DGet.t {H : Hp} {a b : Addr} {kvs : List (List Key × V)} {k : List Key} (e : H a = some (.dT kvs)) (eb : H b = some (.tup (k.map kV))) : DGet H a (.ref b) (valV kvs k) := .inr ⟨kvs, k, b, .inl e, rfl, eb, rfl⟩
theorem DPut.k {H : Hp} {a : Addr} {kvs : List (Key × V)} {k : Key} {v : V} (e : H a = some (.dK kvs)) (hl : kvs.length < sizeLine) : DPut H a (kV k) v (upd H a (.dK (putK kvs k v))) := .inl ⟨kvs, k, e, rfl, hl, rfl⟩
theorem DPut.t {H : Hp} {a b : Addr} {kvs : List (List Key × V)} {k : List Key} {v : V} (e : H a = some (.dT kvs)) (eb : H b = some (.tup (k.map kV))) (hl : kvs.length < sizeLine) :
    DPut H a (.ref b) v (upd H a (.dT (putK kvs k v))) := .inr ⟨kvs, k, b, e, rfl, eb, hl, rfl⟩


section
variable {X : Cx} {pins : List (Addr × Obj)} {σ : St} {H : Hp} {s : Shared} {a : Addr} {y v : V} {u r : Value} {o : Option V} {A : Around} {E : Value → Shared → Prop}

theorem Inv.big (I : Inv X pins σ H s) : sysModules < s.heap.objs.size := by
  have h : mainGlobals < s.heap.objs.size := (I.mod.glob.keeps I.bk).lt
  exact Nat.lt_trans (by decide) h

/-- d[y], there -/
theorem d_getItem {Q : Value → Shared → Prop} (hu : A.units + 1 < cLine) (I : Inv X pins σ H s) (g : DGet H a y (some v)) (ry : RelV y u) (h : ∀ w' s', Inv X pins σ H s' → RelV v w' → Q w' s') :
    wpAny (model X.prog X.w) A (getItem (.ref a) u) Q E s := by
  rcases g with ⟨kvs, k, e, ey, l⟩ | ⟨kvs, k, b, e, ey, eb, l⟩
  · subst ey
    obtain ⟨z, hd, vs, rel, dd⟩ := dk_rd I.hok e
    obtain ⟨w', hw, rw'⟩ := RelO.some_of (v := v) (o := valueAt vs k) (by rw [l]; exact rel.val k)
    exact wpAny_getItem_of (kV_is ry) dd.mapOf hw (h w' _ (I.tok _) rw')
  · subst ey
    cases (show u = Value.ref b from ry)
    obtain ⟨z, hd, xs, rel, dd⟩ := dt_rd I.hok e
    obtain ⟨w', hw, rw'⟩ := RelO.some_of (v := v) (o := (atKey xs k).map (·.2)) (by rw [l]; exact rel.val k)
    obtain ⟨p, hp, hp2⟩ := Option.map_eq_some_iff.mp hw
    refine wpAny_getItem_heap (tupleKind_room_in1 hu) (key_of I.hok eb) dd hp ?_
    rw [hp2]
    exact h w' _ (I.tok _) rw'
/-- y in d -/
theorem d_in {Q : Value → Shared → Prop} (hu : A.units + 1 < cLine) (I : Inv X pins σ H s) (g : DGet H a y o) (ry : RelV y u) (h : ∀ s', Inv X pins σ H s' → Q (.bool o.isSome) s') :
    wpAny (model X.prog X.w) A (compareOp .In u (.ref a)) Q E s := by
  rcases g with ⟨kvs, k, e, ey, l⟩ | ⟨kvs, k, b, e, ey, eb, l⟩
  · subst ey
    obtain ⟨z, hd, vs, rel, dd⟩ := dk_rd I.hok e
    refine wpAny_in_of (kV_is ry) hd dd.mapOf ?_
    rw [← (rel.val k).isSome_eq, ← l]
    exact h _ (I.tok _)
  · subst ey
    cases (show u = Value.ref b from ry)
    obtain ⟨z, hd, xs, rel, dd⟩ := dt_rd I.hok e
    refine wpAny_in_heap (tupleKind_room_in1 hu) (key_of I.hok eb) hd dd ?_
    have q := (rel.val k).isSome_eq
    rw [Option.isSome_map] at q
    rw [← q, ← l]
    exact h _ (I.tok _)
theorem d_notIn {Q : Value → Shared → Prop} (hu : A.units + 1 < cLine) (I : Inv X pins σ H s) (g : DGet H a y o) (ry : RelV y u) (h : ∀ s', Inv X pins σ H s' → Q (.bool (!o.isSome)) s') :
    wpAny (model X.prog X.w) A (compareOp .NotIn u (.ref a)) Q E s := by
  rcases g with ⟨kvs, k, e, ey, l⟩ | ⟨kvs, k, b, e, ey, eb, l⟩
  · subst ey
    obtain ⟨z, hd, vs, rel, dd⟩ := dk_rd I.hok e
    refine wpAny_notIn_of (kV_is ry) hd dd.mapOf ?_
    rw [← (rel.val k).isSome_eq, ← l]
    exact h _ (I.tok _)
  · subst ey
    cases (show u = Value.ref b from ry)
    obtain ⟨z, hd, xs, rel, dd⟩ := dt_rd I.hok e
    refine wpAny_notIn_heap (tupleKind_room_in1 hu) (key_of I.hok eb) hd dd ?_
    have q := (rel.val k).isSome_eq
    rw [Option.isSome_map] at q
    rw [← q, ← l]
    exact h _ (I.tok _)
/-- a dict's object is replaced -/
theorem d_write {h' : Heap} {t' : Nat} {ob : HO} (I : Inv X pins σ H s) (mu : Mut (H a)) (hs : Heap.SameBut a s.heap h') (he : ∃ q, h'.get? a = some q) (new : ObjOk X.prog X.w (upd H a ob) h' a ob) :
    Inv X pins σ (upd H a ob) { s with heap := h', toks := t' } :=
  I.write (x := a) (e := a) mu (.inl rfl) (fun b q hb z => (hs.2 b hb).trans z) he new
theorem dk_new {P : Program} {w : World} {H' : Hp} {h' : Heap} {kvs : List (Key × V)} {vs : List (Key × Value)} (z : kvs.length ≤ sizeLine) (hd : (a == sysModules) = false) (rel : KV kvs vs) (dd : h'.DictOf (mixKind P w) a vs) :
    ObjOk P w H' h' a (.dK kvs) := ⟨z, hd, vs, rel, dd⟩
/-- d[y] = v -/
theorem d_setItem {H' : Hp} {Q : Unit → Shared → Prop} (hu : A.units + 1 < cLine) (I : Inv X pins σ H s) (g : DPut H a y v H') (ry : RelV y u) (rv : RelV v r) (h : ∀ s', Inv X pins σ H' s' → Q () s') :
    wpAny (model X.prog X.w) A (setItem (.ref a) u r) Q E s := by
  rcases g with ⟨kvs, k, e, ey, l, eH⟩ | ⟨kvs, k, b, e, ey, eb, l, eH⟩
  · subst ey eH
    obtain ⟨z, hd, vs, rel, dd⟩ := dk_of I.hok e
    have hz : vs.length ≤ sizeLine := by rw [← rel.length]; exact z
    have hl : (putK kvs k v).length ≤ sizeLine := by have := length_putK kvs k v; omega
    refine wpAny_setItem_pairs (hsz := hz) (kV_is ry) dd fun h' dd' hs => h _ ?_
    have he : ∃ q, h'.get? a = some q := let ⟨q, _, _, hq, _⟩ := dd'; ⟨q, hq⟩
    exact d_write I (by rw [e]; exact True.intro) hs he (dk_new hl hd (rel.put k rv) dd')
  · subst ey eH
    cases (show u = Value.ref b from ry)
    obtain ⟨z, hd, xs, rel, dd⟩ := dt_of I.hok e
    have hz : xs.length ≤ sizeLine := by rw [← Paired.length rel]; exact z
    have hl : (putK kvs k v).length ≤ sizeLine := by have := length_putK kvs k v; omega
    refine wpAny_setItem_heap (hsz := hz) (tupleKind_room_in1 hu) (key_of I.hok eb) dd fun h' dd' hs => h _ ?_
    obtain ⟨q, es, ep, hq, h2, h3, h4, _, h5⟩ := dd'
    refine d_write I (by rw [e]; exact True.intro) hs ⟨q, hq⟩ ⟨hl, hd, _, (rel.put k eb rv).keeps fun c ys ec => ?_, q, es, ep, hq, h2, h3, h4, h5⟩
    rw [upd_ne (ne_of ec e (fun z => nomatch z))]
    exact ec
end

section
variable {X : Cx} {pins : List (Addr × Obj)} {σ : St} {H : Hp} {s : Shared} {a : Addr} {kvs : List (Key × V)} {k : Key} {u : Value} {A : Around} {E : Value → Shared → Prop}
/-- len(d) -/
theorem d_len {Q : Value → Shared → Prop} (I : Inv X pins σ H s) (e : Rd H a (.dK kvs)) (h : ∀ t s', Inv X pins σ H s' → Q (.int kvs.length t) s') : wpAny (model X.prog X.w) A (call (.builtin "len") [.ref a]) Q E s := by
  obtain ⟨z, hd, vs, rel, dd⟩ := dk_rd I.hok e
  refine call_len_dict hd dd (by rw [← rel.length]; rw [sizeLine_eq] at z; omega) ?_
  rw [← rel.length]
  exact h _ _ (I.tok _)
end


/-! ### readings and rules -/
/-- the element of a subscription, not a slice -/
def NoSl (i : Expr) : Prop := ∀ ov iv, subscripted i false ov iv = operate [ov, iv] (getItem ov iv)
theorem subD_of {prog : Program} {w : World} {A : Around} {E : Value → Shared → Prop} {s : Shared} {env : Env} {value slice : Expr} {pos : Pos} {T id : String} {Q : Value → Shared → Prop}
    (hl : typeLookup (.type T) "__getitem__" = pure (some (.builtin id))) (hs : NoSl slice)
    (h : wpAny (model prog w) A (eval value env) (fun o s₁ => wpAny (model prog w) A (eval slice env) (fun i s₂ => s₂.TypeIs o T ∧ wpAny (model prog w) A (getItem o i) Q E s₂) E s₁) E s) :
    wpAny (model prog w) A (eval (.Subscript value slice pos) env) Q E s := by
  refine Subscript_ (wpAny_mono h (fun o s₁ h₁ => wpAny_mono h₁ (fun i s₂ h₂ => ?_) fun _ _ x => x) fun _ _ x => x)
  obtain ⟨hT, h₂⟩ := h₂
  unfold subscriptTail
  refine wpAny_bind ?_
  rw [getitemInPython_of_ne hT.not_modules]
  refine wpAny_bind (wpAny_specialOf hT hl ?_)
  have fin : wpAny (model prog w) A (subscripted slice false o i) (fun r s₃ => wpAny (model prog w) A (letTemporaryGo value o r >>= fun _ => pure r) Q E s₃) E s₂ := by
    rw [hs o i]
    exact wpAny_operating (wpAny_mono h₂ (fun r s₃ h₃ => wpAny_bind (wpAny_letTemporaryGo (wpAny_pure h₃))) fun _ _ x => x)
  first
    | exact wpAny_pure (wpAny_bind fin)
    | exact wpAny_bind (wpAny_pure (wpAny_bind fin))
    | exact wpAny_bind fin

theorem dict_typeIs {X : Cx} {pins : List (Addr × Obj)} {σ : St} {H : Hp} {s : Shared} {a : Addr} {y : V} {o : Option V} (I : Inv X pins σ H s) (g : DGet H a y o) : s.TypeIs (.ref a) "dict" := by
  rcases g with ⟨kvs, k, e, _, _⟩ | ⟨kvs, k, b, e, _, _, _⟩
  · obtain ⟨_, _, vs, _, dd⟩ := dk_rd I.hok e
    exact dd.typeIs
  · obtain ⟨_, _, xs, _, dd⟩ := dt_rd I.hok e
    exact dd.typeIs
/-- d[y] -/
def tDGet (td ty : TE) : TE := fun σ H Q => td σ H fun x H1 => ty σ H1 fun y H2 => ∃ a v, x = .ref a ∧ DGet H2 a y (some v) ∧ Q v H2
/-- y in d, y not in d -/
def tDIn (ty td : TE) : TE := fun σ H Q => ty σ H fun y H1 => td σ H1 fun x H2 => ∃ a o, x = .ref a ∧ DGet H2 a y o ∧ Q (.bl o.isSome) H2
def tDNotIn (ty td : TE) : TE := fun σ H Q => ty σ H fun y H1 => td σ H1 fun x H2 => ∃ a o, x = .ref a ∧ DGet H2 a y o ∧ Q (.bl (!o.isSome)) H2
/-- d[y] = v -/
def sDPut (td ty tv : TE) : TS := fun D σ H => tv σ H fun v H1 => td σ H1 fun x H2 => ty σ H2 fun y H3 => ∃ a H4, x = .ref a ∧ DPut H3 a y v H4 ∧ D.nx σ H4
/-- d[y] op= v -/
def sDAug (td ty tv : TE) (rd : V → V → Hp → VK → Prop) : TS := fun D σ H => td σ H fun x H1 => ty σ H1 fun y H2 => ∃ a v, x = .ref a ∧ DGet H2 a y (some v) ∧
  tv σ H2 fun y2 H3 => rd v y2 H3 fun z H4 => ∃ H5, DPut H4 a y z H5 ∧ D.nx σ H5
/-- del d[y] -/
def sDDel (td ty : TE) : TS := fun D σ H => td σ H fun x H1 => ty σ H1 fun y H2 => ∃ a kvs k, x = .ref a ∧ H2 a = some (.dK kvs) ∧ y = kV k ∧ (valV kvs k).isSome = true ∧ D.nx σ (upd H2 a (.dK (dropK kvs k)))

section
variable {X : Cx} {o i e value : Expr} {pos pos' tpos : Pos} {td ty tv : TE}
theorem pe_dget (hu : X.A.units + 1 < cLine) (ho : PE X o td) (hi : PE X i ty) (hs : NoSl i) : PE X (.Subscript o i pos) (tDGet td ty) := by
  intro pins s σ H Q I h
  refine subD_of PySem.F.slot_dict_getitem.lookup hs (thn (ho pins s σ H _ I h) fun u s1 ⟨x, H1, I1, rx, q1⟩ => thn (hi pins s1 σ H1 _ I1 q1) fun iv s2 ⟨y, H2, I2, ry, a, v, ex, g, q2⟩ => ?_)
  subst ex
  obtain rfl : u = Value.ref a := rx
  exact ⟨dict_typeIs I2 g, d_getItem hu I2 g ry fun w' s3 I3 rw' => ⟨v, H2, I3, rw', q2⟩⟩
theorem pc_din (hu : X.A.units + 1 < cLine) (hi : PE X i ty) (ho : PE X o td) : PC X .In i o (tDIn ty td) := by
  intro pins s σ H Q I h
  refine thn (hi pins s σ H _ I h) fun iv s1 ⟨y, H1, I1, ry, q1⟩ => thn (ho pins s1 σ H1 _ I1 q1) fun u s2 ⟨x, H2, I2, rx, a, ov, ex, g, q2⟩ => ?_
  subst ex
  obtain rfl : u = Value.ref a := rx
  exact d_in hu I2 g ry fun s3 I3 => ⟨.bl ov.isSome, H2, I3, rfl, q2⟩
theorem pc_dnotin (hu : X.A.units + 1 < cLine) (hi : PE X i ty) (ho : PE X o td) : PC X .NotIn i o (tDNotIn ty td) := by
  intro pins s σ H Q I h
  refine thn (hi pins s σ H _ I h) fun iv s1 ⟨y, H1, I1, ry, q1⟩ => thn (ho pins s1 σ H1 _ I1 q1) fun u s2 ⟨x, H2, I2, rx, a, ov, ex, g, q2⟩ => ?_
  subst ex
  obtain rfl : u = Value.ref a := rx
  exact d_notIn hu I2 g ry fun s3 I3 => ⟨.bl (!ov.isSome), H2, I3, rfl, q2⟩
theorem ps_dput (hu : X.A.units + 1 < cLine) (ho : PE X o td) (hi : PE X i ty) (hv : PE X value tv) (hs : swapsWith value (some (.Subscript o i pos')) pos.line X.env = pure false) :
    PS X (.Assign [.Subscript o i pos'] value pos) (sDPut td ty tv) := by
  intro pins s σ H D I h
  refine wpAny_Assign_Subscript (thn (hv pins s σ H _ I h) fun r s1 ⟨v, H1, I1, rv, q1⟩ => thn (ho pins s1 σ H1 _ I1 q1) fun u s2 ⟨x, H2, I2, rx, q2⟩ => thn (hi pins s2 σ H2 _ I2 q2) fun iv s3 ⟨y, H3, I3, ry, a, H4, ex, g, q3⟩ => ?_) hs
  subst ex
  obtain rfl : u = Value.ref a := rx
  exact d_setItem hu I3 g ry rv fun s4 I4 => ⟨σ, H4, I4, q3⟩
end


/-! ### displays -/
theorem dk_empty {P : Program} {w : World} {H : Hp} (h : Heap) (hb : sysModules < h.objs.size) : ObjOk P w H (h.push { cls := .type "dict", data := .dict #[] }) h.objs.size (.dK []) :=
  ⟨Nat.zero_le _, beq_eq_false_iff_ne.mpr (Ne.symm (Nat.ne_of_lt hb)), [], .nil, Heap.DictOf.new h⟩
theorem dt_empty {P : Program} {w : World} {H : Hp} (h : Heap) (hb : sysModules < h.objs.size) : ObjOk P w H (h.push { cls := .type "dict", data := .dict #[] }) h.objs.size (.dT []) :=
  ⟨Nat.zero_le _, beq_eq_false_iff_ne.mpr (Ne.symm (Nat.ne_of_lt hb)), [], .nil, _, #[], 0, Heap.get?_push_size _ rfl, ⟨rfl, rfl, rfl⟩, rfl, rfl, List.nodup_nil⟩
/-- {}, to be a dict of the kind that is wanted -/
def tDNewK : TE := fun _ H Q => ∀ p, H p = none → Q (.ref p) (upd H p (.dK []))
def tDNewT : TE := fun _ H Q => ∀ p, H p = none → Q (.ref p) (upd H p (.dT []))
section
variable {X : Cx} {pos : Pos}
theorem pe_dnewK : PE X (.Dict [] [] pos) tDNewK := fun pins s σ H Q I h =>
  wpAny_Dict_empty ⟨.ref s.heap.objs.size, _, I.laid (a := s.heap.objs.size) (o := .dK []) (t' := s.toks) (fun _ _ q => Heap.get?_push_of_some _ q) (Nat.le_refl _) (dk_empty s.heap I.big), rfl, h _ (I.hok.fresh (Nat.le_refl _))⟩
theorem pe_dnewT : PE X (.Dict [] [] pos) tDNewT := fun pins s σ H Q I h =>
  wpAny_Dict_empty ⟨.ref s.heap.objs.size, _, I.laid (a := s.heap.objs.size) (o := .dT []) (t' := s.toks) (fun _ _ q => Heap.get?_push_of_some _ q) (Nat.le_refl _) (dt_empty s.heap I.big), rfl, h _ (I.hok.fresh (Nat.le_refl _))⟩
end

/-- the pairs of a display, from the left -/
def tPairs : List (TE × TE) → St → Hp → (List (V × V) → Hp → Prop) → Prop
  | [], _, H, Q => Q [] H
  | (tk, tv) :: r, σ, H, Q => tk σ H fun x H1 => tv σ H1 fun y H2 => tPairs r σ H2 fun ps H3 => Q ((x, y) :: ps) H3
abbrev VV : List (V × V) → List (Value × Value) → Prop := Paired fun p q => RelV p.1 q.1 ∧ RelV p.2 q.2
def PPs (X : Cx) (pos : Pos) (keys : List (Option Expr)) (values : List Expr) (trs : List (TE × TE)) : Prop :=
  ∀ (pins : List (Addr × Obj)) (s : Shared) (σ : St) (H : Hp) (Q : List (V × V) → Hp → Prop), Inv X pins σ H s → tPairs trs σ H Q →
    wpAny (model X.prog X.w) X.A (evalPairs (pairTrees keys values X.env pos)) (fun vs s' => ∃ ps H', Inv X pins σ H' s' ∧ VV ps vs ∧ Q ps H') X.xe s
theorem pps_nil {X : Cx} {pos : Pos} : PPs X pos [] [] [] := fun pins s σ H Q I h => pairTrees_nil_walk ⟨[], H, I, .nil, h⟩
theorem pps_cons {X : Cx} {pos : Pos} {k v : Expr} {ks : List (Option Expr)} {vs : List Expr} {tk tv : TE} {trs : List (TE × TE)} (hk : PE X k tk) (hv : PE X v tv) (hr : PPs X pos ks vs trs) :
    PPs X pos (some k :: ks) (v :: vs) ((tk, tv) :: trs) := fun pins s σ H Q I h =>
  pairTrees_cons_walk (thn (hk pins s σ H _ I h) fun u s1 ⟨x, H1, I1, rx, q1⟩ => thn (hv pins s1 σ H1 _ I1 q1) fun w2 s2 ⟨y, H2, I2, ry, q2⟩ =>
    thn (hr pins s2 σ H2 _ I2 q2) fun ws s3 ⟨ps, H3, I3, rel, q3⟩ => ⟨(x, y) :: ps, H3, I3, .cons ⟨rx, ry⟩ rel, q3⟩)

def mergeK (kvs more : List (Key × V)) : List (Key × V) := more.foldl (fun acc kv => putK acc kv.1 kv.2) kvs
theorem KV.merge : ∀ {more : List (Key × V)} {rs : List (Key × Value)} {kvs : List (Key × V)} {vs : List (Key × Value)}, KV more rs → KV kvs vs → KV (mergeK kvs more) (merged vs rs) := by
  intro more rs kvs vs r
  unfold KV at r
  induction r generalizing kvs vs with
  | nil => intro q; exact q
  | @cons p q ps qs h t ih =>
    intro r0
    have e : KV (putK kvs p.1 p.2) (stored vs q.1 q.2) := by
      have := r0.put p.1 h.2
      rw [← h.1]; exact this
    exact ih e
theorem length_mergeK : ∀ (more kvs : List (Key × V)), (mergeK kvs more).length ≤ kvs.length + more.length
  | [], kvs => by show kvs.length ≤ kvs.length + 0; omega
  | p :: r, kvs => by
    have h1 := length_mergeK r (putK kvs p.1 p.2)
    have h2 := length_putK kvs p.1 p.2
    show (mergeK (putK kvs p.1 p.2) r).length ≤ _
    rw [List.length_cons]; omega
theorem carries_of {P : Program} {w : World} : ∀ {kvs : List (Key × V)} {ws : List (Value × Value)}, VV (kvs.map fun kv => (kV kv.1, kv.2)) ws → ∃ rs, Carries (mixKind P w) ws rs ∧ KV kvs rs
  | [], _, r => by rw [List.map_nil] at r; cases r; exact ⟨[], True.intro, .nil⟩
  | p :: kvs, _, r => by
    rw [List.map_cons] at r
    cases r with
    | @cons a b as bs h t =>
      obtain ⟨rs, c, q⟩ := carries_of (P := P) (w := w) t
      obtain ⟨b1, b2⟩ := b
      exact ⟨(p.1, b2) :: rs, ⟨kV_is h.1, rfl, c⟩, .cons ⟨rfl, h.2⟩ q⟩
/-- {k: v, ..} with keys ints and texts; the new dict stands empty while the pairs are made -/
def tDisp (trs : List (TE × TE)) : TE := fun σ H Q => ∀ p, H p = none → tPairs trs σ (upd H p (.dK [])) fun ps H2 => H2 p = some (.dK []) ∧ ∃ kvs : List (Key × V), ps = kvs.map (fun kv => (kV kv.1, kv.2)) ∧ kvs.length ≤ 15 ∧ Q (.ref p) (upd H2 p (.dK (mergeK [] kvs)))
theorem pe_disp {X : Cx} {pos : Pos} {keys : List (Option Expr)} {values : List Expr} {trs : List (TE × TE)} (h : PPs X pos keys values trs) (hall : keys.all (·.isSome) = true) (hl : keys.length = values.length) (h0 : keys ≠ [])
    (h15 : keys.length ≤ 15) : PE X (.Dict keys values pos) (tDisp trs) := by
  intro pins s σ H Q I q
  have hn := I.hok.fresh (Nat.le_refl s.heap.objs.size)
  have I1 := I.laid (a := s.heap.objs.size) (o := .dK []) (h' := s.heap.push { cls := .type "dict", data := .dict #[] }) (t' := s.toks) (fun _ _ q => Heap.get?_push_of_some _ q) (Nat.le_refl _) (dk_empty s.heap I.big)
  refine wpAny_Dict_walk (knd := mixKind X.prog X.w) hall hl h0 h15 (thn (h pins _ σ _ _ I1 (q _ hn)) fun ws s2 ⟨ps, H2, I2, rel, e, kvs, ep, lk, q2⟩ => ?_)
  subst ep
  obtain ⟨rs, c, rk⟩ := carries_of (P := X.prog) (w := X.w) rel
  obtain ⟨z, hd, vs0, r0, dd⟩ := dk_of I2.hok e
  cases r0
  refine ⟨rs, c, dd, fun h' dd' hs => ⟨.ref s.heap.objs.size, _, ?_, rfl, q2⟩⟩
  have hz : (mergeK [] kvs).length ≤ sizeLine := by
    have h1 := length_mergeK kvs []
    rw [List.length_nil] at h1
    rw [sizeLine_eq]; omega
  have he : ∃ q, h'.get? s.heap.objs.size = some q := let ⟨q, _, _, hq, _⟩ := dd'; ⟨q, hq⟩
  exact d_write I2 (by rw [e]; exact True.intro) hs he (dk_new hz hd (rk.merge .nil) dd')


/-! ### methods -/
/-- a method call o.m(e) of a built-in, with one argument: what must be seen of the text -/
structure M1 (X : Cx) (o : Expr) (m : Str) (apos : Pos) (e : Expr) (cpos : Pos) : Prop where
  base : attributeBase o m X.env (eval o X.env) = eval o X.env
  few : ((backTo cpos (starEach [e] X.env)).all (fun x => !x.1) && (backToKw cpos (keywordEach [] X.env)).all (fun x => x.1.isSome)
    && decide (([e] : List Expr).length + ([] : List Keyword).length + (if ([] : List Keyword).isEmpty then 0 else 1) < 30)) = true
  line : (apos.endLine == cpos.line) = true
  trees : backTo cpos (starEach [e] X.env) = [(false, eval e X.env)]
structure M2 (X : Cx) (o : Expr) (m : Str) (apos : Pos) (e f : Expr) (cpos : Pos) : Prop where
  base : attributeBase o m X.env (eval o X.env) = eval o X.env
  few : ((backTo cpos (starEach [e, f] X.env)).all (fun x => !x.1) && (backToKw cpos (keywordEach [] X.env)).all (fun x => x.1.isSome)
    && decide (([e, f] : List Expr).length + ([] : List Keyword).length + (if ([] : List Keyword).isEmpty then 0 else 1) < 30)) = true
  line : (apos.endLine == cpos.line) = true
  trees : backTo cpos (starEach [e, f] X.env) = [(false, eval e X.env), (false, eval f X.env)]

/-- a is a dict, whatever its keys -/
def IsD (H : Hp) (a : Addr) : Prop := (∃ kvs, Rd H a (.dK kvs)) ∨ ∃ kvs, Rd H a (.dT kvs)
theorem isD_at {X : Cx} {pins : List (Addr × Obj)} {σ : St} {H : Hp} {s : Shared} {a : Addr} (I : Inv X pins σ H s) (d : IsD H a) :
    s.TypeIs (.ref a) "dict" ∧ (∀ b, Value.ref a = .ref b → ∃ ob, s.heap.get? b = some ob ∧ ob.dict = none) ∧ (a == sysModules) = false := by
  rcases d with ⟨kvs, e⟩ | ⟨kvs, e⟩
  · obtain ⟨_, hd, vs, _, dd⟩ := dk_rd I.hok e
    refine ⟨dd.typeIs, fun b q => ?_, hd⟩
    cases q
    obtain ⟨ob, _, _, h1, h2, _⟩ := dd
    exact ⟨ob, h1, h2.2.1⟩
  · obtain ⟨_, hd, xs, _, dd⟩ := dt_rd I.hok e
    refine ⟨dd.typeIs, fun b q => ?_, hd⟩
    cases q
    obtain ⟨ob, _, _, h1, h2, _⟩ := dd
    exact ⟨ob, h1, h2.2.1⟩

section
variable {X : Cx} {pins : List (Addr × Obj)} {σ : St} {H : Hp} {s : Shared} {a : Addr} {y d : V} {u r : Value} {o : Option V} {A : Around} {E : Value → Shared → Prop}
/-- d.get(y, x) -/
theorem d_get2 {Q : Value → Shared → Prop} (hu : A.units + 1 < cLine) (I : Inv X pins σ H s) (g : DGet H a y o) (ry : RelV y u) (rd : RelV d r) (h : ∀ w' s', Inv X pins σ H s' → RelV (o.getD d) w' → Q w' s') :
    wpAny (model X.prog X.w) A (call (.builtin "dict.get") [.ref a, u, r]) Q E s := by
  rcases g with ⟨kvs, k, e, ey, l⟩ | ⟨kvs, k, b, e, ey, eb, l⟩
  · subst ey
    obtain ⟨z, hd, vs, rel, dd⟩ := dk_rd I.hok e
    refine call_meetsIn PySem.F.slot_dict_get dd.typeIs PySem.F.entry_dict_get (PySem.F.args_dict_get_3 _ _ _) (meets_dict_get_default (mixKind X.prog X.w) a (kV_is ry) hd r) ⟨_, dd.mapOf, h _ _ (I.tok _) ?_⟩
    rw [l]
    exact (rel.val k).getD rd
  · subst ey
    cases (show u = Value.ref b from ry)
    obtain ⟨z, hd, xs, rel, dd⟩ := dt_rd I.hok e
    refine call_meetsIn PySem.F.slot_dict_get dd.typeIs PySem.F.entry_dict_get (PySem.F.args_dict_get_3 _ _ _) (meetsH_dict_get_default (tupleKind (mixKind X.prog X.w)) a b hd r) ⟨tupleKind_room_in1 hu, k, xs, key_of I.hok eb, dd, h _ _ (I.tok _) ?_⟩
    rw [l]
    exact (rel.val k).getD rd
end

def tDGet1 (td ty : TE) : TE := fun σ H Q => td σ H fun x H1 => ∃ a, x = .ref a ∧ IsD H1 a ∧ ty σ H1 fun y H2 => ∃ o, DGet H2 a y o ∧ Q (o.getD .non) H2
def tDGet2 (td ty tx : TE) : TE := fun σ H Q => td σ H fun x H1 => ∃ a, x = .ref a ∧ IsD H1 a ∧ ty σ H1 fun y H2 => tx σ H2 fun z H3 => ∃ o, DGet H3 a y o ∧ Q (o.getD z) H3
/-- d.pop(k): there; d.pop(k, x): there or not -/
def tDPop1 (td ty : TE) : TE := fun σ H Q => td σ H fun x H1 => ∃ a, x = .ref a ∧ IsD H1 a ∧ ty σ H1 fun y H2 => ∃ kvs k v, H2 a = some (.dK kvs) ∧ y = kV k ∧ valV kvs k = some v ∧ Q v (upd H2 a (.dK (dropK kvs k)))
def tDPop2 (td ty tx : TE) : TE := fun σ H Q => td σ H fun x H1 => ∃ a, x = .ref a ∧ IsD H1 a ∧ ty σ H1 fun y H2 => tx σ H2 fun z H3 => ∃ kvs k, H3 a = some (.dK kvs) ∧ y = kV k ∧
  (∀ v, valV kvs k = some v → Q v (upd H3 a (.dK (dropK kvs k)))) ∧ (valV kvs k = none → Q z H3)
section
variable {X : Cx} {o e f : Expr} {apos cpos : Pos} {td ty tx : TE}
theorem pe_dget2 (hu : X.A.units + 1 < cLine) (ho : PE X o td) (he : PE X e ty) (hf : PE X f tx) (m : M2 X o "get" apos e f cpos) : PE X (.Call (.Attribute o "get" apos) [e, f] [] cpos) (tDGet2 td ty tx) := by
  intro pins s σ H Q I h
  refine wpAny_Call_method m.base m.few m.line PySem.F.plainAttrs_dict PySem.F.slot_dict_get PySem.F.type_dict_get (thn (ho pins s σ H _ I h) fun u s1 ⟨x, H1, I1, rx, a, ex, d, q1⟩ => ?_)
  subst ex
  obtain rfl : u = Value.ref a := rx
  obtain ⟨t1, t2, _⟩ := isD_at I1 d
  refine ⟨t1, t2, ?_⟩
  rw [m.trees]
  refine Calls.callWith_builtin rfl (Calls.evalArgs_plain (Calls.spliced_cons (thn (he pins s1 σ H1 _ I1 q1) fun iv s2 ⟨y, H2, I2, ry, q2⟩ =>
    Calls.spliced_cons (thn (hf pins s2 σ H2 _ I2 q2) fun fv s3 ⟨z, H3, I3, rz, ov, g, q3⟩ => Calls.spliced_nil ?_))))
  exact d_get2 hu I3 g ry rz fun w' s4 I4 rw' => ⟨_, H3, I4, rw', q3⟩
end

/-! ### dict(d): a copy -/
section
variable {X : Cx} {pins : List (Addr × Obj)} {σ : St} {H : Hp} {s : Shared} {a : Addr} {kvs : List (Key × V)} {A : Around} {E : Value → Shared → Prop}
end


section
variable {X : Cx} {pins : List (Addr × Obj)} {σ : St} {H : Hp} {s : Shared} {a : Addr} {y : V} {u : Value} {A : Around} {E : Value → Shared → Prop}
end
end L2
namespace L2
open PySem PySem.Spec PyProof.Rows
section
variable {X : Cx}
/-- len of a dict -/
theorem call_lenD : CallR X (.builtin "len") (fun xs H Q => ∃ a kvs, xs = [V.ref a] ∧ H a = some (.dK kvs) ∧ Q (.int kvs.length) H) := by
  intro pins s σ H xs us Q I r h
  obtain ⟨a, kvs, rfl, ha, q⟩ := h
  obtain ⟨u, rfl, ru⟩ := vals1 r
  cases ru
  exact d_len I (.inl ha) fun t s' I' => ⟨.int kvs.length, H, I', ⟨t, rfl⟩, q⟩
end
end L2


/-! Own rules beside the hand layer: range(..) as a value, list(range(..)), len of a dict. Behind MyDict. -/
namespace L2
open PySem PySem.Spec PyProof.Rows
def rLenD : List V → Hp → VK → Prop := fun xs H Q => ∃ a kvs, xs = [V.ref a] ∧ H a = some (.dK kvs) ∧ Q (.int kvs.length) H
def tRng1 (ta : TA) : TE := fun σ H Q => ta σ H fun vs H1 => ∃ j : Int, vs = [.int j] ∧ -(2 ^ 62) ≤ j ∧ j < 2 ^ 62 ∧ ∀ p, H1 p = none → Q (.ref p) (upd H1 p (.rng 0 j))
def tRng2 (ta : TA) : TE := fun σ H Q => ta σ H fun vs H1 => ∃ i j : Int, vs = [.int i, .int j] ∧ (-(2 ^ 62) ≤ i ∧ i < 2 ^ 62 ∧ -(2 ^ 62) ≤ j ∧ j < 2 ^ 62) ∧ ∀ p, H1 p = none → Q (.ref p) (upd H1 p (.rng i j))
def rListRng : List V → Hp → VK → Prop := fun xs H Q => ∃ (p : Addr) (i j : Int), xs = [.ref p] ∧ H p = some (.rng i j) ∧ (-(2 ^ 62) ≤ i ∧ i < 2 ^ 62 ∧ -(2 ^ 62) ≤ j ∧ j < 2 ^ 62) ∧ j - i ≤ 1000 ∧ ∀ l, H l = none → Q (.ref l) (upd H l (.lst ((List.range (j - i).toNat).map fun k : Nat => V.int (i + (k : Int)))))
section
variable {X : Cx}
theorem rng_laid {pins : List (Addr × Obj)} {σ : St} {H : Hp} {s : Shared} {lo hi : Int} {t u v : Tok} {tk : Nat} {Q : VK} (I : Inv X pins σ H s) (q : ∀ p, H p = none → Q (.ref p) (upd H p (.rng lo hi))) :
    EP X pins σ Q (.ref s.heap.objs.size) { s with heap := s.heap.push { cls := .type "range", data := .fields #[.int lo t, .int hi u, .int 1 v] }, toks := tk } :=
  ⟨.ref s.heap.objs.size, _, I.laid (a := s.heap.objs.size) (o := .rng lo hi) (t' := tk) (fun _ _ q => Heap.get?_push_of_some _ q) (Nat.le_refl _) (show ObjOk X.prog X.w _ _ _ (.rng lo hi) from ⟨t, u, v, Heap.get?_push_size _ rfl⟩), rfl, q _ (I.hok.fresh (Nat.le_refl _))⟩
theorem pe_rng2 {a b : Expr} {ta : TA} {p pos : Pos} (hg : Gl X "range") (hm : X.mg "range" = none) (ha : PA X [a, b] ta) (hs : starEach [a, b] X.env = [(false, eval a X.env), (false, eval b X.env)] := by rfl) (hs2 : starEach [b] X.env = [(false, eval b X.env)] := by rfl) :
    PE X (.Call (.Name "range" p) [a, b] [] pos) (tRng2 ta) := by
  intro pins s σ H Q I h
  refine Call_ (ld_blt I hg hm boot_range (PyProof.Rows.callWith_type1 (thn (ha pos pins s σ H _ I h) fun us s1 ⟨vs, H1, I1, r1, q1⟩ => ?_) (by rw [hs, hs2]) (by rw [hs2]; rfl)))
  obtain ⟨i, j, e, ⟨q1, q2, q3, q4⟩, q⟩ := q1
  subst e
  cases r1 with
  | cons r rr =>
    cases rr with
    | cons r' rr =>
      cases rr
      obtain ⟨t, rfl⟩ := r
      obtain ⟨t', rfl⟩ := r'
      exact call_range_2 (rng_laid I1 q)
theorem vals_of : ∀ {xs : List V} {us : List Value}, xs.length = us.length → (∀ (j : Nat) x u, xs[j]? = some x → us[j]? = some u → RelV x u) → Vals xs us
  | [], [], _, _ => .nil
  | [], _ :: _, h, _ => by simp at h
  | _ :: _, [], h, _ => by simp at h
  | x :: xs, u :: us, h, r => .cons (r 0 x u rfl rfl) (vals_of (by simpa using h) fun j y v e1 e2 => r (j + 1) y v e1 e2)
theorem items_ints {lo : Int} {acc : Array Value} {n : Nat} (h : ItemsOf (fun i v => ∃ t, v = .int (lo + i * 1) t) acc n) : Vals ((List.range n).map fun k : Nat => V.int (lo + (k : Int))) acc.toList := by
  refine vals_of (by rw [List.length_map, List.length_range, Array.length_toList, h.1]) fun j x u e1 e2 => ?_
  rw [List.getElem?_map, Option.map_eq_some_iff] at e1
  obtain ⟨k, hk, rfl⟩ := e1
  obtain ⟨l1, l2⟩ := List.getElem?_eq_some_iff.mp hk
  rw [List.getElem_range] at l2
  subst l2
  obtain ⟨t, rfl⟩ := h.2 j u (by rw [← Array.getElem?_toList]; exact e2)
  exact ⟨t, by rw [Int.mul_one]⟩
theorem call_list_rng (hc : X.calm = true) : CallR X (.type "list") rListRng := by
  intro pins s σ H xs us Q I r h
  obtain ⟨p, i, j, rfl, hp, ⟨h1, h2, h3, h4⟩, hl, q⟩ := h
  obtain ⟨u, rfl, rx⟩ := vals1 r
  cases rx
  obtain ⟨t, u, v, e⟩ := (show ObjOk X.prog X.w H s.heap p (.rng i j) from I.hok p _ hp)
  refine call_list_range (n := (j - i).toNat) (I.ok.hd hc) e (small_one h1 h2 h3 h4) (by rw [rangeSize_one]; split <;> omega) (by omega) fun h' tk acc c' kp e' it => ?_
  exact ⟨.ref s.heap.objs.size, _, I.laid (t' := tk) kp (Nat.le_refl _) (show ObjOk X.prog X.w _ h' _ (.lst _) from ⟨by simp [sizeLine_eq]; omega, acc.toList, c', items_ints it, e'⟩), rfl, q _ (I.hok.fresh (Nat.le_refl _))⟩
end
end L2

/-! Own rules beside the hand layer: sorted of a list of ints, of a dict with int keys; tuples that the top has made. Behind MyRng. -/
namespace L2
open PySem PySem.Spec PyProof.Rows
/-- a tuple that the top has made -/
def KTup (K : PySem.W.Frag) (a : Addr) (xs : List V) : Prop := ∃ (o : Obj) (its : Array Value) (n : Nat), K.lookup a = some o ∧ o.cls = .type "tuple" ∧ o.data = .seq its n ∧ its.size ≤ sizeLine ∧ Vals xs its.toList
theorem SqT.ofK {K : PySem.W.Frag} {H : Hp} {a : Addr} {xs : List V} (h : KTup K a xs) : SqT K H a xs := .inr h
def rSortedL (K : PySem.W.Frag) : List V → Hp → VK → Prop := fun xs H Q => ∃ (p : Addr) (ks : List Int), xs = [.ref p] ∧ SqL K H p (ks.map V.int) ∧ ks.length < 64 ∧ ∀ (l : Addr) (ns : List Int), H l = none → ns.Perm ks → ns.Pairwise (· ≤ ·) → Q (.ref l) (upd H l (.lst (ns.map V.int)))
def rSortedD : List V → Hp → VK → Prop := fun xs H Q => ∃ (p : Addr) (kvs : List (Key × V)) (ks : List Int), xs = [.ref p] ∧ H p = some (.dK kvs) ∧ kvs.map (·.1) = ks.map Sum.inl ∧ ks.length < 64 ∧ ∀ (l : Addr) (ns : List Int), H l = none → ns.Perm ks → ns.Pairwise (· ≤ ·) → Q (.ref l) (upd H l (.lst (ns.map V.int)))
section
variable {X : Cx}
theorem vals_are : ∀ {ns : List Int} {us : List Value}, Vals (ns.map V.int) us → IntsAre us ns
  | [], _, r => by rw [List.map_nil] at r; cases r; exact .nil
  | n :: ns, _, r => by
    rw [List.map_cons] at r
    cases r with
    | cons h t =>
      obtain ⟨t', rfl⟩ := h
      exact .cons _ _ (vals_are t)
theorem ints_vals : ∀ {ns : List Int} {us : List Value}, IntsAre us ns → Vals (ns.map V.int) us
  | _, _, .nil => .nil
  | _, _, .cons n t r => .cons ⟨t, rfl⟩ (ints_vals r)
theorem sortd_laid {pins : List (Addr × Obj)} {σ : St} {H : Hp} {s : Shared} {l : Addr} {h' : Heap} {tk : Nat} {out : Array Value} {e : Nat} {ns' : List Int} {Q : VK} (I : Inv X pins σ H s) (kp : ∀ b o, s.heap.get? b = some o → h'.get? b = some o) (hlt : s.heap.objs.size ≤ l)
    (ho : h'.get? l = some (seqObj "list" out e)) (hI : IntsAre out.toList ns') (hl : ns'.length < 64) (q : H l = none → Q (.ref l) (upd H l (.lst (ns'.map V.int)))) : EP X pins σ Q (.ref l) { s with heap := h', toks := tk } := by
  refine ⟨.ref l, _, I.laid (t' := tk) kp hlt (show ObjOk X.prog X.w _ h' _ (.lst (ns'.map V.int)) from ⟨?_, out.toList, e, ints_vals hI, ho⟩), rfl, q (I.hok.fresh hlt)⟩
  rw [List.length_map, sizeLine_eq]
  omega
theorem call_sortedD (hc : X.calm = true) : CallR X (.builtin "sorted") rSortedD := by
  intro pins s σ H xs us Q I r h
  obtain ⟨p, kvs, ks, rfl, hp, hk, h64, q⟩ := h
  obtain ⟨u, rfl, rx⟩ := vals1 r
  cases rx
  obtain ⟨z, hd, vs, rel, dd⟩ := dk_of I.hok hp
  obtain ⟨ep, hat⟩ := dd.dictAt
  have hlv : vs.length = ks.length := by
    have h1 := congrArg List.length hk
    rw [List.length_map, List.length_map] at h1
    rw [← h1, rel.length]
  refine Calls.call_function_entry kind_sorted plain_sorted entry_sorted (args_sorted1 _) ?_
  unfold Builtin.«sorted»
  refine wpAny_bind (m := checkCount "sorted" 1 1 _) (wpAny_pure ?_)
  refine wpAny_bind (PySem.W.kdu_collect (A := X.A.in1) (PySem.W.kdl_dict (knd := mixKind X.prog X.w) (kvs := vs) (ep := ep) hd) (I.ok.hd hc) hat (by rw [hlv, sizeLine_eq]; omega) fun h' tk acc hkp hacc => ?_)
  have hla : acc.toList.length = ks.length := by rw [Array.length_toList, hacc.1, hlv]
  have hI : IntsAre acc.toList ks := by
    refine vals_are (vals_of (by rw [List.length_map, hla]) fun j x w e1 e2 => ?_)
    rw [List.getElem?_map, Option.map_eq_some_iff] at e1
    obtain ⟨k, hkj, rfl⟩ := e1
    obtain ⟨k', x', hx', hkw⟩ := hacc.2 j w (by rw [← Array.getElem?_toList]; exact e2)
    have e3 : (kvs.map (·.1))[j]? = some (Sum.inl k) := by rw [hk, List.getElem?_map, hkj]; rfl
    rw [rel.keys, List.getElem?_map, hx'] at e3
    have e4 : k' = Sum.inl k := Option.some.inj e3
    subst e4
    rcases keyIs_shape (show keyIs (.inl k) w = true from hkw) with ⟨i, t, e5, rfl⟩ | ⟨y, t, e5, _⟩
    · cases e5
      exact ⟨t, rfl⟩
    · cases e5
  refine wpAny_bind (wpAny_newList ?_ (by rw [hla, sizeLine_eq]; omega))
  have hoL : (h'.push (seqObj "list" acc.toList.toArray 0)).get? h'.objs.size = some (seqObj "list" acc.toList.toArray 0) := Heap.get?_push_size _ rfl
  refine wpAny_bind (wpAny_holding (wpAny_call_entry slot_list_sort ⟨_, hoL, rfl⟩ entry_list_sort (list_sort_tree hoL hI (by rw [hla]; exact h64) fun out ns' a1 a2 a3 => ⟨_, rfl, ?_⟩) (args_list_sort _)))
  obtain ⟨e, he⟩ := sortedHeap_at (out := out) hoL
  refine wpAny_pure ⟨_, rfl, ?_⟩
  have I' : Inv X pins σ H { s with heap := h', toks := tk } := I.kept (t' := tk) hkp
  refine sortd_laid (s := { s with heap := h', toks := tk }) (h' := sortedHeap (h'.push (seqObj "list" acc.toList.toArray 0)) h'.objs.size acc.toList out) (tk := tk) I' (fun b o hb' => ?_) (Nat.le_refl _) he a1 (by rw [a2.length_eq]; exact h64) fun hn => q _ ns' hn a2 a3
  have hlt := Heap.lt_size hb'
  rw [sortedHeap_old (Nat.ne_of_lt hlt) (by rw [size_push']; exact Nat.lt_succ_of_lt hlt)]
  exact Heap.get?_push_of_some _ hb'
end
end L2

/-! Own rules beside the hand layer: isinstance between built-in types. Behind MySort. -/
namespace L2
open PySem PySem.Spec PyProof.Rows
end L2

/-! Own rules beside the hand layer: d.setdefault(k, v). Behind MyKit. -/
namespace L2
open PySem PySem.Spec PyProof.Rows
/-- d.setdefault(k, v), the keys ints and texts -/
def tDSetD (td ty tx : TE) : TE := fun σ H Q => td σ H fun x H1 => ∃ a, x = .ref a ∧ IsD H1 a ∧ ty σ H1 fun y H2 => tx σ H2 fun z H3 => ∃ kvs k, H3 a = some (.dK kvs) ∧ y = kV k ∧ kvs.length < sizeLine ∧
  (∀ v, valV kvs k = some v → Q v H3) ∧ (valV kvs k = none → Q z (upd H3 a (.dK (putK kvs k z))))
section
variable {X : Cx} {o e f : Expr} {apos cpos : Pos} {td ty tx : TE}
theorem pe_dsetd (hu : X.A.units + 1 < cLine) (ho : PE X o td) (he : PE X e ty) (hf : PE X f tx) (m : M2 X o "setdefault" apos e f cpos) : PE X (.Call (.Attribute o "setdefault" apos) [e, f] [] cpos) (tDSetD td ty tx) := by
  intro pins s σ H Q I h
  refine wpAny_Call_method m.base m.few m.line PySem.F.plainAttrs_dict PySem.F.slot_dict_setdefault PySem.F.type_dict_setdefault (thn (ho pins s σ H _ I h) fun u s1 ⟨x, H1, I1, rx, a, ex, d, q1⟩ => ?_)
  subst ex
  obtain rfl : u = Value.ref a := rx
  obtain ⟨t1, t2, _⟩ := isD_at I1 d
  refine ⟨t1, t2, ?_⟩
  rw [m.trees]
  refine Calls.callWith_builtin rfl (Calls.evalArgs_plain (Calls.spliced_cons (thn (he pins s1 σ H1 _ I1 q1) fun iv s2 ⟨y, H2, I2, ry, q2⟩ =>
    Calls.spliced_cons (thn (hf pins s2 σ H2 _ I2 q2) fun fv s3 ⟨z, H3, I3, rz, kvs, k, ea, ey, hl, q3, q4⟩ => Calls.spliced_nil ?_))))
  subst ey
  obtain ⟨zl, hd, vs, rel, dd⟩ := dk_of I3.hok ea
  refine call_meetsIn PySem.F.slot_dict_setdefault dd.typeIs PySem.F.entry_dict_setdefault (PySem.F.args_dict_setdefault_3 _ _ _) (kt_meets_setdefault (mixKind X.prog X.w) a (kV_is ry) hd fv) ⟨vs, dd, by rw [← rel.length]; exact zl, fun w hw => ?_, fun hn h' dd' hs => ?_⟩
  · have r1 := rel.val k
    rw [hw] at r1
    cases hv : valV kvs k with
    | none => rw [hv] at r1; exact (show False from r1).elim
    | some v => rw [hv] at r1; exact ⟨v, H3, I3.tok _, r1, q3 v hv⟩
  · have r1 := rel.val k
    rw [hn] at r1
    have hv : valV kvs k = none := by
      cases hv : valV kvs k with
      | none => rfl
      | some v => rw [hv] at r1; exact (show False from r1).elim
    have he : ∃ q, h'.get? a = some q := let ⟨q, _, _, hq, _⟩ := dd'; ⟨q, hq⟩
    have hlp : (putK kvs k z).length ≤ sizeLine := by have := length_putK kvs k z; omega
    exact ⟨z, _, d_write I3 (by rw [ea]; exact True.intro) hs he (dk_new hlp hd (rel.put k rz) dd'), rz, q4 hv⟩
end
end L2

/-! Own rules beside the hand layer: set(list of ints), its len. Behind MySetD. -/
namespace L2
open PySem PySem.Spec PyProof.Rows
def rSetOf (K : PySem.W.Frag) : List V → Hp → VK → Prop := fun xs H Q => ∃ (p : Addr) (ns : List Int), xs = [.ref p] ∧ SqL K H p (ns.map V.int) ∧ ns.length < 4000 ∧ ∀ (l : Addr) (ds : List Int) (S : Int → Bool), H l = none → ds.Nodup → (∀ x, x ∈ ds ↔ x ∈ ns) → Q (.ref l) (upd H l (.set S ds.length))
def rLenS : List V → Hp → VK → Prop := fun xs H Q => ∃ (p : Addr) (S : Int → Bool) (n : Nat), xs = [.ref p] ∧ H p = some (.set S n) ∧ Q (.int n) H
theorem dedup_nodup (val : Nat → Int) : ∀ n, (firstMet val n).Nodup
  | 0 => by rw [firstMet_zero]; exact List.nodup_nil
  | n + 1 => by
    rw [firstMet_succ]
    unfold step_dedup
    split
    · exact dedup_nodup val n
    · rename_i c
      refine List.nodup_append.mpr ⟨dedup_nodup val n, by simp, fun a ha b hb e => c ?_⟩
      have : b = val n := by simpa using hb
      subst this
      subst e
      exact List.any_eq_true.mpr ⟨_, ha, by simp⟩
theorem dedup_mem (ns : List Int) (x : Int) : x ∈ firstMet (fun i => ns.getD i 0) ns.length ↔ x ∈ ns := by
  have h := firstMet_any (fun i => ns.getD i 0) ns.length x
  have e : (List.range ns.length).map (fun i => ns.getD i 0) = ns := by
    apply List.ext_getElem
    · simp
    · intro i h1 h2
      simp [h2]
  rw [e] at h
  have z : ∀ l : List Int, l.any (· == x) = true ↔ x ∈ l := fun l => by
    rw [List.any_eq_true]
    exact ⟨fun ⟨y, hy, hxy⟩ => by rw [← (beq_iff_eq.mp hxy)]; exact hy, fun hx => ⟨x, hx, by simp⟩⟩
  rw [← z, h, z]
section
variable {X : Cx}
theorem call_setL (hc : X.calm = true) : CallR X (.type "set") (rSetOf X.K) := by
  intro pins s σ H xs us Q I r h
  obtain ⟨p, ns, rfl, hp, hl, q⟩ := h
  obtain ⟨u, rfl, rx⟩ := vals1 r
  cases rx
  obtain ⟨its, rv, pl, hz⟩ := I.list hp
  have hI := vals_are rv
  have hle : its.length = ns.length := by rw [← rv.length, List.length_map]
  refine call_set_list (ns := ns) (I.ok.hd hc) pl.isList (by simpa using hI) (by rw [List.size_toArray, hle]; show ns.length + 1 < 4096; omega) fun h' tk hS kp => ?_
  have e : its.toArray.size = ns.length := by rw [List.size_toArray, hle]
  simp only [e] at hS
  exact ⟨.ref s.heap.objs.size, _, I.laid (t' := tk) (fun b o e => kp b o (Heap.lt_size e) e) (Nat.le_refl _) (show ObjOk X.prog X.w _ h' _ (.set _ _) from hS), rfl, q _ _ _ (I.hok.fresh (Nat.le_refl _)) (dedup_nodup _ _) (dedup_mem ns)⟩
theorem call_lenS : CallR X (.builtin "len") rLenS := by
  intro pins s σ H xs us Q I r h
  obtain ⟨p, S, n, rfl, hp, q⟩ := h
  obtain ⟨u, rfl, rx⟩ := vals1 r
  cases rx
  obtain ⟨o, es, ep, t, h1, h2, h3, _, _, h6, h7, h8⟩ := (show s.heap.SetOf (intKind X.prog X.w) p S n from I.hok p _ hp)
  refine call_len_set h1 h2 h3 h7 (by have : es.size < 4096 := h6; omega) ?_
  exact ⟨.int n, H, I.tok _, ⟨_, by rw [h8]⟩, q⟩
end
end L2

/-! Own rules beside the hand layer: xs != []. Behind MySet. -/
namespace L2
open PySem PySem.Spec PyProof.Rows
def rNeE (K : PySem.W.Frag) : R2 := fun x y H Q => ∃ a b xs, x = .ref a ∧ y = .ref b ∧ SqL K H a xs ∧ SqL K H b [] ∧ Q (.bl (!xs.isEmpty)) H
section
variable {X : Cx}
theorem op_neE (hu : X.A.units + 64 < cLine) : OpR X (compareOp .NotEq) (rNeE X.K) := by
  intro pins s σ H x y v u Q I rx ry h
  obtain ⟨a, b, xs, rfl, rfl, ha, hb, q⟩ := h
  cases rx
  cases ry
  obtain ⟨us, r1, p1, _⟩ := I.list ha
  obtain ⟨vs, r2, p2, _⟩ := I.list hb
  cases r2
  cases xs with
  | nil =>
    cases r1
    have z := SeqAt.RcNeAt.lists (A := X.A) p1.isList p2.isList rfl (by omega) (e := fun _ => true) (fun j h1 h2 => absurd h1 (Nat.not_lt_zero _))
    exact z X.prog X.w X.xe _ ⟨.bl false, H, I, rfl, q⟩
  | cons y ys =>
    have z := SeqAt.RcNeAt.lists_lengths (A := X.A) p1.isList p2.isList (by rw [List.size_toArray, List.size_toArray, ← r1.length]; rfl) (by omega)
    exact z X.prog X.w X.xe _ ⟨.bl true, H, I, rfl, q⟩
end
end L2

/-! Own rules beside the hand layer: for k in d, the keys of d ints and texts; while it is walked the dict is frozen. Behind MyNeE. -/
namespace L2
open PySem PySem.Spec PyProof.Rows
/-- the keys of the dict at a, the object o while it is walked -/
def Itd (a : Addr) (o : Obj) (kvs : List (Key × V)) : It :=
  ⟨fun i H => (∃ p, kvs[i]? = some p) ∧ H a = some (.frz o (.dK kvs)), fun i H x H' => H' = H ∧ ∃ p, kvs[i]? = some p ∧ x = kV p.1, fun i H => kvs.length ≤ i ∧ H a = some (.frz o (.dK kvs))⟩
def iDict (F : Addr → Prop) (td : TE) : TI := fun σ H R => td σ H fun x H1 => ∃ a kvs, x = .ref a ∧ H1 a = some (.dK kvs) ∧ ∀ o, F a → R (Itd a o kvs) (upd H1 a (.frz o (.dK kvs)))
/-- behind the loop the dict is a dict as before -/
def thawE (F : Addr → Prop) (D : Ends) : Ends :=
  { nx := fun σ H => ∃ a o kvs, F a ∧ H a = some (.frz o (.dK kvs)) ∧ D.nx σ (upd H a (.dK kvs)), rt := fun v H => ∃ a o kvs, F a ∧ H a = some (.frz o (.dK kvs)) ∧ D.rt v (upd H a (.dK kvs)) }
def tForD (td : TE) (g : TG) (tb : TS) : TS := fun D σ H => ∀ F : Addr → Prop, tFor (iDict F td) g tb (thawE F D) σ H
theorem for_dictF {F : Addr → Prop} {a : Addr} {o : Obj} {kvs : List (Key × V)} {g : TG} {tb : TS} {D : Ends} {σ : St} {H : Hp} (hF : F a) (Pv : Nat → St → Hp → Prop) (h0 : Pv 0 σ (upd H a (.frz o (.dK kvs)))) (hl : ∀ i σ H, i ≤ kvs.length → Pv i σ H → H a = some (.frz o (.dK kvs)))
    (hs : ∀ i p σ H, kvs[i]? = some p → Pv i σ H → g (kV p.1) σ H fun σ2 H2 => tb { thawE F D with nx := Pv (i + 1), ct := Pv (i + 1), bk := (thawE F D).nx } σ2 H2) (hd : ∀ σ H, Pv kvs.length σ H → D.nx σ (upd H a (.dK kvs))) : ForIt (Itd a o kvs) g tb (thawE F D) σ (upd H a (.frz o (.dK kvs))) := by
  refine ⟨fun i m σ H => m = kvs.length - i ∧ i ≤ kvs.length ∧ Pv i σ H, ⟨_, rfl, Nat.zero_le _, h0⟩, ?_⟩
  rintro i m σ H ⟨rfl, hi, pv⟩
  have hx := hl i σ H hi pv
  by_cases hlt : i < kvs.length
  · refine .inr ⟨⟨⟨kvs[i], by simp [hlt]⟩, hx⟩, Pv (i + 1), fun σ' H' p' => ⟨_, by omega, rfl, hlt, p'⟩, fun x H' yl => ?_⟩
    obtain ⟨rfl, p, hp, rfl⟩ := yl
    exact hs i p σ _ hp pv
  · have e : i = kvs.length := by omega
    subst e
    exact .inl ⟨⟨Nat.le_refl _, hx⟩, a, o, kvs, hF, hx, hd σ H pv⟩
section
variable {X : Cx} {pins : List (Addr × Obj)} {σ : St} {H : Hp} {s : Shared} {a : Addr} {o : Obj} {kvs : List (Key × V)}
/-- another word for the object at a -/
theorem Inv.reword {u v : HO} (I : Inv X pins σ H s) (e : H a = some u) (hu : ∀ xs, u ≠ .tup xs) (ho : ∀ x, u ≠ .own x) (hb : ∀ ps, u ≠ .tbl ps) (hf : ∀ o' u', X.H₀ a ≠ some (.frz o' u')) (new : ObjOk X.prog X.w H s.heap a v) : Inv X pins σ (upd H a v) s := by
  have nn : ∀ b, H b = none → b ≠ a := fun b n => (ne_of_none e n).symm
  have nt : ∀ b xs, H b = some (.tup xs) → b ≠ a := fun b xs q z => by subst z; rw [e] at q; exact hu xs (Option.some.inj q)
  have no : ∀ b x, H b = some (.own x) → b ≠ a := fun b x q z => by subst z; rw [e] at q; exact ho x (Option.some.inj q)
  have nb : ∀ b ps, H b = some (.tbl ps) → b ≠ a := fun b ps q z => by subst z; rw [e] at q; exact hb ps (Option.some.inj q)
  refine ⟨I.ok, I.os, I.bare, ⟨I.base.keep, I.base.slot, fun b o' q n hx => ?_, I.base.there, fun b xs q => ?_, fun b o' u' q => ?_, fun b ps q => ?_⟩, I.loc, I.cell, ?_, fun x c q => ?_, fun p hp => ?_, fun b w' q => ?_, I.len⟩
  · have n1 := I.base.free b o' q n hx
    rw [upd_ne (nn b n1)]
    exact n1
  · have n1 := I.base.tups b xs q
    rw [upd_ne (nt b xs n1)]
    exact n1
  · have n1 := I.base.frzs b o' u' q
    rw [upd_ne (fun z => by subst z; exact hf o' u' q)]
    exact n1
  · obtain ⟨more, n1⟩ := I.base.tbls b ps q
    exact ⟨more, by rw [upd_ne (nb b _ n1)]; exact n1⟩
  · rw [upd_ne (nn _ I.free)]
    exact I.free
  · rw [upd_ne (nn _ (I.freeC x c q))]
    exact I.freeC x c q
  · obtain ⟨p1, p2, p3⟩ := I.pin p hp
    exact ⟨p1, by rw [upd_ne (nn _ p2)]; exact p2, p3⟩
  · have ok : ObjOk X.prog X.w H s.heap b w' := by
      by_cases c : b = a
      · subst c
        rw [upd_same] at q
        cases q
        exact new
      · rw [upd_ne c] at q
        exact I.hok b w' q
    exact ok.stay (fun _ _ _ z => z) (fun c z => by rw [upd_ne (no c _ z)]; exact z) fun c xs z => by rw [upd_ne (nt c xs z)]; exact z
theorem Inv.nofrz {u : HO} (I : Inv X pins σ H s) (e : H a = some u) (hu : ∀ o' u', u ≠ .frz o' u') : ∀ o' u', X.H₀ a ≠ some (.frz o' u') := fun o' u' q => by
  have := I.base.frzs a o' u' q
  rw [e] at this
  exact hu o' u' (Option.some.inj this)
theorem Inv.freeze (I : Inv X pins σ H s) (e : H a = some (.dK kvs)) (ho : s.heap.get? a = some o) : Inv X pins σ (upd H a (.frz o (.dK kvs))) s :=
  I.reword e (fun _ z => nomatch z) (fun _ z => nomatch z) (fun _ z => nomatch z) (I.nofrz e fun _ _ z => nomatch z) ⟨ho, I.hok a _ e⟩
theorem Inv.thaw (I : Inv X pins σ H s) (e : H a = some (.frz o (.dK kvs))) (hf : ∀ o' u', X.H₀ a ≠ some (.frz o' u')) : Inv X pins σ (upd H a (.dK kvs)) s :=
  I.reword e (fun _ z => nomatch z) (fun _ z => nomatch z) (fun _ z => nomatch z) hf (show ObjOk X.prog X.w H s.heap a (.frz o (.dK kvs)) from I.hok a _ e).2
theorem turn_dict {P : Program} {w : World} {K : PySem.W.Frag} {tg : Expr} (a it : Addr) (o : Obj) (kvs : List (Key × V)) {es : Array DictEntry} {ep : Nat} (ho : o.data = .dict es ep) (na : a ≠ it) : Turn P w K tg (Itd a o kvs) [it] it (fun i h => h.IsKeyIter it a i kvs.length ep) where
  mem := by simp
  obj := fun i h st b hb => by
    have e : b = it := by simpa using hb
    subst e
    obtain ⟨o, e, c, d⟩ := st
    exact ⟨o, e, fun v z => by rw [d] at z; cases z⟩
  keep := fun i h h' st k => st.at fun o e => k it (by simp) o e
  item := by
    intro X hP hw hK hc i pins s σ H E I hf st hg
    subst hP hw hK
    obtain ⟨⟨p, hx⟩, hq⟩ := hg
    obtain ⟨e1, _, _, vs, rel, o', es', ep', e2, dd⟩ := (show ObjOk X.prog X.w H s.heap a (.frz o (.dK kvs)) from I.hok a _ hq)
    rw [e1] at e2
    cases e2
    have eep : ep' = ep := by
      have := dd.2.1
      rw [ho] at this
      injection this with _ z
      exact z.symm
    subst eep
    have hat : s.heap.DictAt (mixKind X.prog X.w) a vs ep' := ⟨o, es', e1, dd⟩
    have hlen : kvs.length = vs.length := rel.length
    have lt := (List.getElem?_eq_some_iff.mp hx).1
    obtain ⟨⟨k, v⟩, hv⟩ : ∃ p, vs[i]? = some p := ⟨vs[i]'(by omega), by rw [List.getElem?_eq_getElem]⟩
    have ek : k = p.1 := by
      have h1 := congrArg (fun l => l[i]?) rel.keys
      simp only [List.getElem?_map, hx, hv, Option.map_some] at h1
      exact (Option.some.inj h1).symm
    obtain ⟨f0, f1, f2, f3, f4, f5⟩ := hf it (by simp)
    rw [hlen] at st
    refine wpAny_pyNext_dict_item st hat hv fun key h' hkey st' sb => ?_
    have I1 : Inv X pins σ H { s with heap := h' } := I.turned (t' := s.toks) (fun b o hb e => (sb.2 b hb).trans e) f0 f1 f3 f4 f5
    obtain ⟨o2, e, c, d⟩ := id st'
    have rk : RelV (kV p.1) key := by
      rw [← ek]
      rcases keyIs_shape (show keyIs k key = true from hkey) with ⟨j, t, rfl, rfl⟩ | ⟨y, t, rfl, rfl⟩
      · exact ⟨t, rfl⟩
      · exact ⟨t, rfl⟩
    rw [← hlen] at st'
    exact ⟨key, rfl, go_of (s := { s with heap := h' }) e c d (by decide) ⟨kV p.1, H, I1, rk, ⟨rfl, p, hx, rfl⟩, st', fun b hb => (hf b hb).1⟩⟩
  done := by
    intro X hP hw hK hc i pins s σ H E I hf st hg
    subst hP hw hK
    obtain ⟨hx, hq⟩ := hg
    obtain ⟨e1, _, _, vs, rel, o', es', ep', e2, dd⟩ := (show ObjOk X.prog X.w H s.heap a (.frz o (.dK kvs)) from I.hok a _ hq)
    rw [e1] at e2
    cases e2
    have eep : ep' = ep := by
      have := dd.2.1
      rw [ho] at this
      injection this with _ z
      exact z.symm
    subst eep
    have hat : s.heap.DictAt (mixKind X.prog X.w) a vs ep' := ⟨o, es', e1, dd⟩
    have hlen : kvs.length = vs.length := rel.length
    obtain ⟨f0, f1, f2, f3, f4, f5⟩ := hf it (by simp)
    rw [hlen] at st
    exact wpAny_pyNext_dict_end (I.ok.hd hc) st hat (by rw [List.getElem?_eq_none]; omega) fun h' eb => ⟨rfl, I.turned (t' := s.toks) (fun b o hb e => eb b o hb e) f0 f1 f3 f4 f5⟩
  self := fun _ _ _ _ _ st h => wpAny_pyIter_keyiter st h
theorem pi_dict {tg l : Expr} {td : TE} (hl : PE X l td) : PI X tg l (iDict (fun a => ∀ o' u', X.H₀ a ≠ some (.frz o' u')) td) := by
  intro pins s σ H R I h
  refine thn (hl pins s σ H _ I h) fun v s1 ⟨x, H1, I1, r1, q1⟩ => ?_
  obtain ⟨a, kvs, e, ha, q⟩ := q1
  subst e
  cases r1
  obtain ⟨z, hd, vs, rel, o, es, ep, ho, dd⟩ := dk_of I1.hok ha
  have hat : s1.heap.DictAt (mixKind X.prog X.w) a vs ep := ⟨o, es, ho, dd⟩
  have hlen : kvs.length = vs.length := rel.length
  refine wpAny_pyIter_dict hd hat ?_
  have lt : a < s1.heap.objs.size := Heap.lt_size ho
  have I2 : Inv X pins σ H1 { s1 with heap := s1.heap.push { cls := .type "dict_keyiterator", data := .fields #[.ref a, .int 0 0, .int vs.length 0, .int ep 0] } } := I1.kept (t' := s1.toks) fun b o e => Heap.get?_push_of_some _ e
  have I3 := I2.freeze ha (Heap.get?_push_of_some _ ho)
  refine ⟨s1.heap.objs.size, [s1.heap.objs.size], _, _, _, rfl, I3, turn_dict a _ o kvs dd.2.1 (Nat.ne_of_lt lt), ⟨_, Heap.get?_push_size _ rfl, rfl, by rw [hlen]; rfl⟩, fun b hb => ?_, q o (I1.nofrz ha fun _ _ z => nomatch z)⟩
  have e : b = s1.heap.objs.size := by simpa using hb
  subst e
  exact I1.fpOk (Nat.le_refl _) (by rw [upd_ne (Nat.ne_of_gt lt)]; exact I1.hok.fresh (Nat.le_refl _))
theorem ps_forD {tg l : Expr} {body : List Stmt} {td : TE} {g : TG} {tb : TS} {pos : Pos} (hp : PassesOwn (model X.prog X.w) X.A X.env X.xe) (hc : X.calm = true) (hl : PE X l td) (hg : PG X tg g) (hb : PSs X body tb)
    (hs : ∀ x, foldedSetIterable l X.env x = pure x := by intro _; rfl) : PS X (.For tg l body [] pos) (tForD td g tb) := by
  intro pins s σ H D I h
  refine thn (ps_for hp hc (pi_dict hl) hg hb hs pins s σ H _ I (h _)) fun f s' q => ?_
  cases f with
  | next => obtain ⟨σ', H', I', a, o, kvs, hF, e, q⟩ := q; exact ⟨σ', _, I'.thaw e hF, q⟩
  | brk => obtain ⟨σ', H', I', q⟩ := q; exact q.elim
  | cont => obtain ⟨σ', H', I', q⟩ := q; exact q.elim
  | ret u => obtain ⟨v, σ', H', I', r, a, o, kvs, hF, e, q⟩ := q; exact ⟨v, σ', _, I'.thaw e hF, r, q⟩
end
end L2

set_option maxHeartbeats 4000000
namespace My
open PySem L2
def top (i : Nat) : Stmt := PySem.Challenge.pw_hideworth_k49_whole_costs_stay.main.body.getD i (.Pass ⟨0, 0, 0, 0⟩)
abbrev s_is_whole : Stmt := top 6
abbrev s_is_within : Stmt := top 7
abbrev s_is_road : Stmt := top 13
abbrev s_places_come_to : Stmt := top 14
abbrev s_look_web : Stmt := top 15
abbrev s_look_kind : Stmt := top 16
abbrev s_shortest_roads : Stmt := top 17
abbrev s_is_walk_step : Stmt := top 18
abbrev s_walk_costs : Stmt := top 19
abbrev s_is_spread_step : Stmt := top 20
abbrev s_spread_costs : Stmt := top 21
abbrev s_whole_costs : Stmt := top 22
abbrev s_costs_of : Stmt := top 23
abbrev s__law_mixed : Stmt := top 25
abbrev s__law_length : Stmt := top 26
abbrev s__law_web : Stmt := top 27
abbrev s__law_any_web : Stmt := top 28
abbrev s__law_near : Stmt := top 29
abbrev s__law_way : Stmt := top 30
abbrev s__law_walk : Stmt := top 31
abbrev s__law_pairs : Stmt := top 33
abbrev s__law_spread : Stmt := top 32
abbrev s__law_far : Stmt := top 34
abbrev s__law_told_otherwise : Stmt := top 35
abbrev s_law : Stmt := top 36

set_option genInjectivity false in
set_option genSizeOf false in
structure Ad where
  f_is_whole : Addr
  d_is_whole : FuncData
  f_is_within : Addr
  d_is_within : FuncData
  f_is_road : Addr
  d_is_road : FuncData
  f_places_come_to : Addr
  d_places_come_to : FuncData
  f_look_web : Addr
  d_look_web : FuncData
  f_look_kind : Addr
  d_look_kind : FuncData
  f_shortest_roads : Addr
  d_shortest_roads : FuncData
  f_is_walk_step : Addr
  d_is_walk_step : FuncData
  f_walk_costs : Addr
  d_walk_costs : FuncData
  f_is_spread_step : Addr
  d_is_spread_step : FuncData
  f_spread_costs : Addr
  d_spread_costs : FuncData
  f_whole_costs : Addr
  d_whole_costs : FuncData
  f_costs_of : Addr
  d_costs_of : FuncData
  f__law_mixed : Addr
  d__law_mixed : FuncData
  f__law_length : Addr
  d__law_length : FuncData
  f__law_web : Addr
  d__law_web : FuncData
  f__law_any_web : Addr
  d__law_any_web : FuncData
  f__law_near : Addr
  d__law_near : FuncData
  f__law_way : Addr
  d__law_way : FuncData
  f__law_walk : Addr
  d__law_walk : FuncData
  f__law_pairs : Addr
  d__law_pairs : FuncData
  f__law_spread : Addr
  d__law_spread : FuncData
  f__law_far : Addr
  d__law_far : FuncData
  f__law_told_otherwise : Addr
  d__law_told_otherwise : FuncData
  f_law : Addr
  d_law : FuncData
  k_MOST_PLACES : Tok
  k_MOST_ROADS : Tok
  k_MOST_LENGTH : Tok
  t_KINDS : Addr

structure Txt (K : PySem.W.Frag) (mg : Str → Option Value) (a : Ad) : Prop where
  F_is_whole : Fun K "is_whole" "is_whole" s_is_whole a.f_is_whole a.d_is_whole
  b_is_whole : Binds K a.d_is_whole ["thing"] []
  m_is_whole : mg "is_whole" = some (.ref a.f_is_whole)
  F_is_within : Fun K "is_within" "is_within" s_is_within a.f_is_within a.d_is_within
  b_is_within : Binds K a.d_is_within ["thing", "least", "most"] []
  m_is_within : mg "is_within" = some (.ref a.f_is_within)
  F_is_road : Fun K "is_road" "is_road" s_is_road a.f_is_road a.d_is_road
  b_is_road : Binds K a.d_is_road ["thing", "many"] []
  m_is_road : mg "is_road" = some (.ref a.f_is_road)
  F_places_come_to : Fun K "places_come_to" "places_come_to" s_places_come_to a.f_places_come_to a.d_places_come_to
  b_places_come_to : Binds K a.d_places_come_to ["roads"] []
  m_places_come_to : mg "places_come_to" = some (.ref a.f_places_come_to)
  F_look_web : Fun K "look_web" "look_web" s_look_web a.f_look_web a.d_look_web
  b_look_web : Binds K a.d_look_web ["web"] []
  m_look_web : mg "look_web" = some (.ref a.f_look_web)
  F_look_kind : Fun K "look_kind" "look_kind" s_look_kind a.f_look_kind a.d_look_kind
  b_look_kind : Binds K a.d_look_kind ["kind"] []
  m_look_kind : mg "look_kind" = some (.ref a.f_look_kind)
  F_shortest_roads : Fun K "shortest_roads" "shortest_roads" s_shortest_roads a.f_shortest_roads a.d_shortest_roads
  b_shortest_roads : Binds K a.d_shortest_roads ["web"] []
  m_shortest_roads : mg "shortest_roads" = some (.ref a.f_shortest_roads)
  F_is_walk_step : Fun K "is_walk_step" "is_walk_step" s_is_walk_step a.f_is_walk_step a.d_is_walk_step
  b_is_walk_step : Binds K a.d_is_walk_step ["lengths", "plan", "k"] []
  m_is_walk_step : mg "is_walk_step" = some (.ref a.f_is_walk_step)
  F_walk_costs : Fun K "walk_costs" "walk_costs" s_walk_costs a.f_walk_costs a.d_walk_costs
  b_walk_costs : Binds K a.d_walk_costs ["lengths", "plan"] []
  m_walk_costs : mg "walk_costs" = some (.ref a.f_walk_costs)
  F_is_spread_step : Fun K "is_spread_step" "is_spread_step" s_is_spread_step a.f_is_spread_step a.d_is_spread_step
  b_is_spread_step : Binds K a.d_is_spread_step ["lengths", "costs", "step"] []
  m_is_spread_step : mg "is_spread_step" = some (.ref a.f_is_spread_step)
  F_spread_costs : Fun K "spread_costs" "spread_costs" s_spread_costs a.f_spread_costs a.d_spread_costs
  b_spread_costs : Binds K a.d_spread_costs ["lengths", "plan"] []
  m_spread_costs : mg "spread_costs" = some (.ref a.f_spread_costs)
  F_whole_costs : Fun K "whole_costs" "whole_costs" s_whole_costs a.f_whole_costs a.d_whole_costs
  b_whole_costs : Binds K a.d_whole_costs ["many", "lengths", "kind", "plan"] []
  m_whole_costs : mg "whole_costs" = some (.ref a.f_whole_costs)
  F_costs_of : Fun K "costs_of" "costs_of" s_costs_of a.f_costs_of a.d_costs_of
  b_costs_of : Binds K a.d_costs_of ["web", "kind", "plan"] []
  m_costs_of : mg "costs_of" = some (.ref a.f_costs_of)
  F__law_mixed : Fun K "_law_mixed" "_law_mixed" s__law_mixed a.f__law_mixed a.d__law_mixed
  b__law_mixed : Binds K a.d__law_mixed ["_law_script", "_law_k"] []
  m__law_mixed : mg "_law_mixed" = some (.ref a.f__law_mixed)
  F__law_length : Fun K "_law_length" "_law_length" s__law_length a.f__law_length a.d__law_length
  b__law_length : Binds K a.d__law_length ["_law_number"] []
  m__law_length : mg "_law_length" = some (.ref a.f__law_length)
  F__law_web : Fun K "_law_web" "_law_web" s__law_web a.f__law_web a.d__law_web
  b__law_web : Binds K a.d__law_web ["_law_script", "_law_start", "_law_most", "_law_extra"] []
  m__law_web : mg "_law_web" = some (.ref a.f__law_web)
  F__law_any_web : Fun K "_law_any_web" "_law_any_web" s__law_any_web a.f__law_any_web a.d__law_any_web
  b__law_any_web : Binds K a.d__law_any_web ["_law_script", "_law_start"] []
  m__law_any_web : mg "_law_any_web" = some (.ref a.f__law_any_web)
  F__law_near : Fun K "_law_near" "_law_near" s__law_near a.f__law_near a.d__law_near
  b__law_near : Binds K a.d__law_near ["_law_web_here"] []
  m__law_near : mg "_law_near" = some (.ref a.f__law_near)
  F__law_way : Fun K "_law_way" "_law_way" s__law_way a.f__law_way a.d__law_way
  b__law_way : Binds K a.d__law_way ["_law_near_here", "_law_start", "_law_come"] []
  m__law_way : mg "_law_way" = some (.ref a.f__law_way)
  F__law_walk : Fun K "_law_walk" "_law_walk" s__law_walk a.f__law_walk a.d__law_walk
  b__law_walk : Binds K a.d__law_walk ["_law_script", "_law_start", "_law_near_here"] []
  m__law_walk : mg "_law_walk" = some (.ref a.f__law_walk)
  F__law_pairs : Fun K "_law_pairs" "_law_pairs" s__law_pairs a.f__law_pairs a.d__law_pairs
  b__law_pairs : Binds K a.d__law_pairs ["_law_near_here"] []
  m__law_pairs : mg "_law_pairs" = some (.ref a.f__law_pairs)
  F__law_spread : Fun K "_law_spread" "_law_spread" s__law_spread a.f__law_spread a.d__law_spread
  b__law_spread : Binds K a.d__law_spread ["_law_script", "_law_start", "_law_near_here"] []
  m__law_spread : mg "_law_spread" = some (.ref a.f__law_spread)
  F__law_far : Fun K "_law_far" "_law_far" s__law_far a.f__law_far a.d__law_far
  b__law_far : Binds K a.d__law_far ["_law_near_here"] []
  m__law_far : mg "_law_far" = some (.ref a.f__law_far)
  F__law_told_otherwise : Fun K "_law_told_otherwise" "_law_told_otherwise" s__law_told_otherwise a.f__law_told_otherwise a.d__law_told_otherwise
  b__law_told_otherwise : Binds K a.d__law_told_otherwise ["_law_script", "_law_web_here"] []
  m__law_told_otherwise : mg "_law_told_otherwise" = some (.ref a.f__law_told_otherwise)
  F_law : Fun K "law" "law" s_law a.f_law a.d_law
  b_law : Binds K a.d_law ["_law_script"] []
  m_law : mg "law" = some (.ref a.f_law)
  z_list : mg "list" = none
  z_range : mg "range" = none
  z_len : mg "len" = none
  z_isinstance : mg "isinstance" = none
  z_int : mg "int" = none
  z_bool : mg "bool" = none
  z_tuple : mg "tuple" = none
  z_str : mg "str" = none
  z_min : mg "min" = none
  z_enumerate : mg "enumerate" = none
  z_sorted : mg "sorted" = none
  z_set : mg "set" = none
  z_max : mg "max" = none
  m_MOST_PLACES : mg "MOST_PLACES" = some (.int 60 a.k_MOST_PLACES)
  m_MOST_ROADS : mg "MOST_ROADS" = some (.int 120 a.k_MOST_ROADS)
  m_MOST_LENGTH : mg "MOST_LENGTH" = some (.int 1000000 a.k_MOST_LENGTH)
  m_KINDS : mg "KINDS" = some (.ref a.t_KINDS)
  u_KINDS : KTup K a.t_KINDS [.str "walk", .str "spread"]

theorem pow30 : CPow 10 30 := ⟨by decide, by decide, by decide⟩
theorem pow18 : CPow 10 18 := ⟨by decide, by decide, by decide⟩
theorem logA : (0 : Int) < 1000000000000000000 ∧ (Int.natAbs 1000000000000000000).log2 < 9000 := by decide +kernel
theorem logB : (0 : Int) < 2147483587 ∧ (Int.natAbs 2147483587).log2 < 9000 := by decide +kernel
theorem log8 : (0 : Int) < 8 ∧ (Int.natAbs 8).log2 < 9000 := by decide +kernel
def spGcd : Sp := fun vs H Q _ => ∃ a b : Int, vs = [.int a, .int b] ∧ Q (.int (Int.gcd a b : Nat)) H
def spWhole : Sp := fun vs H Q _ => ∃ a : Int, vs = [.int a] ∧ Q (.bl true) H
def spMixed (K : PySem.W.Frag) : Sp := fun vs H Q _ => ∃ (a : Addr) (ns : List Int) (k : Int), vs = [.ref a, .int k] ∧ SqL K H a (ns.map V.int) ∧ ns.length ≤ 63 ∧ 0 ≤ k ∧ k < 1000000 ∧ ∀ r : Int, 0 ≤ r → r < 2147483587 → Q (.int r) H
def spLaw (K : PySem.W.Frag) : Sp := fun vs H Q _ => ∃ (a : Addr) (ns : List Int), vs = [.ref a] ∧ SqL K H a (ns.map V.int) ∧ ns.length ≤ 63 ∧ ∀ H', Q (.bl true) H'
/-- (cost, hits, of) -/
abbrev Box := Int × Int × Int
abbrev bx (b : Box) : List V := [.int b.1, .int b.2.1, .int b.2.2]
def GB (b : Box) : Prop := 1 ≤ b.1 ∧ b.1 ≤ 60 ∧ 1 ≤ b.2.1 ∧ b.2.1 ≤ b.2.2 ∧ b.2.2 ≤ 50
theorem map_at {α β : Type} {f : α → β} {l : List α} {i : Nat} {y : β} (h : (l.map f)[i]? = some y) : ∃ x, l[i]? = some x ∧ y = f x := by
  rw [List.getElem?_map] at h
  obtain ⟨x, h1, h2⟩ := Option.map_eq_some_iff.mp h
  exact ⟨x, h1, h2.symm⟩
/-- the tuples at these places -/
def Tps {α : Type} (f : α → List V) (H : Hp) (ts : List Addr) (bs : List α) : Prop := ts.length = bs.length ∧ ∀ (i : Nat) t b, ts[i]? = some t → bs[i]? = some b → H t = some (.tup (f b))
theorem Tps.same {α : Type} {f : α → List V} {H H' : Hp} {ts : List Addr} {bs : List α} (h : Tps f H ts bs) (s : Same H H') : Tps f H' ts bs := ⟨h.1, fun i t b e1 e2 => s _ _ (h.2 i t b e1 e2)⟩
theorem Tps.nil {α : Type} {f : α → List V} {H : Hp} : Tps f H [] ([] : List α) := ⟨rfl, fun i t b e => by simp at e⟩
theorem Tps.put {α : Type} {f : α → List V} {H H' : Hp} {ts : List Addr} {bs : List α} {t : Addr} {b : α} (h : Tps f H ts bs) (s : ∀ (x : Addr) (u : List V), H x = some (.tup u) → H' x = some (.tup u)) (e : H' t = some (.tup (f b))) : Tps f H' (ts ++ [t]) (bs ++ [b]) := by
  refine ⟨by rw [List.length_append, List.length_append, h.1]; rfl, fun i x y e1 e2 => ?_⟩
  by_cases c : i < ts.length
  · rw [List.getElem?_append_left c] at e1
    rw [List.getElem?_append_left (by rw [← h.1]; exact c)] at e2
    exact s _ _ (h.2 i x y e1 e2)
  · have c1 : ts.length ≤ i := by omega
    rw [List.getElem?_append_right c1] at e1
    rw [List.getElem?_append_right (by rw [← h.1]; exact c1), ← h.1] at e2
    have z : i - ts.length = 0 := by
      have := (List.getElem?_eq_some_iff.mp e1).1
      simp only [List.length_cons, List.length_nil] at this
      omega
    rw [z] at e1 e2
    simp only [List.getElem?_cons_zero, Option.some.injEq] at e1 e2
    rw [← e1, ← e2]
    exact e
theorem Tps.app {α : Type} {f : α → List V} {H : Hp} {ts us : List Addr} {bs cs : List α} (h : Tps f H ts bs) (h2 : Tps f H us cs) : Tps f H (ts ++ us) (bs ++ cs) := by
  refine ⟨by rw [List.length_append, List.length_append, h.1, h2.1], fun i x y e1 e2 => ?_⟩
  by_cases c : i < ts.length
  · rw [List.getElem?_append_left c] at e1
    rw [List.getElem?_append_left (by rw [← h.1]; exact c)] at e2
    exact h.2 i x y e1 e2
  · have c1 : ts.length ≤ i := by omega
    rw [List.getElem?_append_right c1] at e1
    rw [List.getElem?_append_right (by rw [← h.1]; exact c1), ← h.1] at e2
    exact h2.2 _ x y e1 e2
theorem Tps.at {α : Type} {f : α → List V} {H : Hp} {ts : List Addr} {bs : List α} (h : Tps f H ts bs) {i : Nat} {t : Addr} (e : ts[i]? = some t) : ∃ b, bs[i]? = some b ∧ H t = some (.tup (f b)) := by
  have hi := (List.getElem?_eq_some_iff.mp e).1
  rw [h.1] at hi
  exact ⟨bs[i], List.getElem?_eq_getElem hi, h.2 i t _ e (List.getElem?_eq_getElem hi)⟩
theorem mem_at {α : Type} {l : List α} {i : Nat} {x : α} (e : l[i]? = some x) : x ∈ l := List.mem_of_getElem? e
/-- boxes and a plan, as two lists of the heap -/
structure BP (H : Hp) (l pl : Addr) (ts : List Addr) (bs : List Box) (ns : List Int) : Prop where
  hl : H l = some (.lst (ts.map V.ref))
  hb : Tps bx H ts bs
  hp : H pl = some (.lst (ns.map V.int))
  len : ns.length = bs.length
  gb : ∀ b ∈ bs, GB b
  gn : ∀ n ∈ ns, 0 ≤ n ∧ n ≤ 60
  l1 : 1 ≤ bs.length
  l6 : bs.length ≤ 6
theorem BP.same {H H' : Hp} {l pl : Addr} {ts : List Addr} {bs : List Box} {ns : List Int} (h : BP H l pl ts bs ns) (s : Same H H') : BP H' l pl ts bs ns :=
  ⟨s _ _ h.hl, h.hb.same s, s _ _ h.hp, h.len, h.gb, h.gn, h.l1, h.l6⟩
/-- 1 less (1 less hits over of) taken n times -/
def chq (b : Box) (n : Int) : Rat := Rat.divInt (b.2.2 ^ n.toNat - (b.2.2 - b.2.1) ^ n.toNat) (b.2.2 ^ n.toNat)
def costs (bs : List Box) (ns : List Int) : List Int := List.zipWith (fun b n => b.1 * n) bs ns
def chqs (bs : List Box) (ns : List Int) : List Rat := List.zipWith chq bs ns
/-- a heap without the purse's two lists -/
def Off (p c : Addr) (H : Hp) : Hp := fun b => if b = p ∨ b = c then none else H b
theorem off_le (p c : Addr) (H : Hp) : Same (Off p c H) H := fun b o h => by
  unfold Off at h
  split at h
  · cases h
  · exact h
theorem off_at {p c b : Addr} {H : Hp} (h1 : b ≠ p) (h2 : b ≠ c) : Off p c H b = H b := if_neg (fun z => z.elim h1 h2)
theorem off_ne {p c b : Addr} {H : Hp} {o : HO} (h : Off p c H b = some o) : b ≠ p ∧ b ≠ c := by
  unfold Off at h
  split at h
  · cases h
  · rename_i z
    exact ⟨fun e => z (.inl e), fun e => z (.inr e)⟩
theorem off_p {p c : Addr} {H : Hp} {o : HO} : Off p c (upd H p o) = Off p c H := by
  funext b
  unfold Off upd
  split
  · rfl
  · rename_i z
    rw [if_neg fun e => z (.inl e)]
theorem off_c {p c : Addr} {H : Hp} {o : HO} : Off p c (upd H c o) = Off p c H := by
  funext b
  unfold Off upd
  split
  · rfl
  · rename_i z
    rw [if_neg fun e => z (.inr e)]
theorem off_upd {p c b : Addr} {H : Hp} {o : HO} (h1 : b ≠ p) (h2 : b ≠ c) : Off p c (upd H b o) = upd (Off p c H) b o := by
  funext x
  unfold Off upd
  by_cases e : x = b
  · subst e
    rw [if_neg fun z => z.elim h1 h2, if_pos rfl, if_pos rfl]
  · rw [if_neg e, if_neg e]
/-- the purse: cells and a turn -/
structure Pur (H : Hp) (p c : Addr) (t : Int) : Prop where
  ne : p ≠ c
  hp : H p = some (.lst [.ref c, .int t])
  hc : ∃ ns : List Int, H c = some (.lst (ns.map V.int)) ∧ 0 < ns.length ∧ ns.length ≤ 63
  t0 : 0 ≤ t
theorem Pur.new {H : Hp} {p c : Addr} {t : Int} (h : Pur H p c t) {b : Addr} (hb : H b = none) : b ≠ p ∧ b ≠ c := by
  obtain ⟨ns, hc, _⟩ := h.hc
  exact ⟨(ne_of_none h.hp hb).symm, (ne_of_none hc hb).symm⟩
theorem Pur.upd {H : Hp} {p c : Addr} {t : Int} (h : Pur H p c t) {b : Addr} {o : HO} (h1 : b ≠ p) (h2 : b ≠ c) : Pur (L2.upd H b o) p c t := by
  obtain ⟨ns, hc, e⟩ := h.hc
  exact ⟨h.ne, by rw [upd_ne h1.symm]; exact h.hp, ⟨ns, by rw [upd_ne h2.symm]; exact hc, e⟩, h.t0⟩
theorem off_new {H : Hp} {p c b : Addr} (hb : H b = none) : Off p c H b = none := by
  unfold Off
  split
  · rfl
  · exact hb
theorem Pur.same {H H' : Hp} {p c : Addr} {t : Int} (h : Pur H p c t) (s : Same H H') : Pur H' p c t := by
  obtain ⟨ns, hc, e⟩ := h.hc
  exact ⟨h.ne, s _ _ h.hp, ⟨ns, s _ _ hc, e⟩, h.t0⟩
theorem off_same {H H' : Hp} (p c : Addr) (s : Same H H') : Same (Off p c H) (Off p c H') := fun b o h => by
  have n := off_ne h
  rw [off_at n.1 n.2] at h ⊢
  exact s _ _ h
theorem while_W {c : TT} {tb : TS} {D : Ends} {σ : St} {H : Hp} (W : Nat → St → Hp → Prop) {m : Nat} (h0 : W m σ H)
    (hs : ∀ m σ H, W m σ H → c σ H fun b H1 => if b = true then ∃ N : St → Hp → Prop, (∀ σ' H', N σ' H' → ∃ m', m' < m ∧ W m' σ' H') ∧ tb { D with nx := N, ct := N, bk := D.nx } σ H1 else D.nx σ H1) : tWhile c tb D σ H := ⟨W, ⟨m, h0⟩, hs⟩
/-- (a, b, length) -/
abbrev Road := Int × Int × Int
abbrev rdv (r : Road) : List V := [.int r.1, .int r.2.1, .int r.2.2]
def GR (m : Int) (r : Road) : Prop := 0 ≤ r.1 ∧ r.1 < m ∧ 0 ≤ r.2.1 ∧ r.2.1 < m ∧ r.1 ≠ r.2.1 ∧ 1 ≤ r.2.2 ∧ r.2.2 ≤ 1000000
instance (m : Int) (r : Road) : Decidable (GR m r) := by unfold GR; infer_instance
/-- from place 0 each place can be come to: each set of places with 0 that no road leaves has them all -/
def Conn (m : Int) (rs : List Road) : Prop := ∀ S : Int → Prop, S 0 → (∀ r ∈ rs, S r.1 ∨ S r.2.1 → S r.1 ∧ S r.2.1) → ∀ x, 0 ≤ x → x < m → S x
structure GW (m : Int) (rs : List Road) : Prop where
  m1 : 1 ≤ m
  m60 : m ≤ 60
  l120 : rs.length ≤ 120
  gr : ∀ r ∈ rs, GR m r
  conn : Conn m rs
/-- a web in the heap -/
structure WebH (H : Hp) (w rl : Addr) (ts : List Addr) (m : Int) (rs : List Road) : Prop where
  hw : H w = some (.tup [.int m, .ref rl])
  hl : H rl = some (.lst (ts.map V.ref))
  ht : Tps rdv H ts rs
theorem WebH.same {H H' : Hp} {w rl : Addr} {ts : List Addr} {m : Int} {rs : List Road} (h : WebH H w rl ts m rs) (s : Same H H') : WebH H' w rl ts m rs := ⟨s _ _ h.hw, s _ _ h.hl, h.ht.same s⟩
/-! ### the least length of the roads between two places -/
def shs (f : Int → Int → Option Int) (r : Road) : Int → Int → Option Int := fun x y =>
  if x = r.2.1 ∧ y = r.1 then some (min ((f r.1 r.2.1).getD r.2.2) r.2.2) else if x = r.1 ∧ y = r.2.1 then some (min ((f r.1 r.2.1).getD r.2.2) r.2.2) else f x y
def sh (rs : List Road) : Int → Int → Option Int := rs.foldl shs fun _ _ => none
theorem sh_take {rs : List Road} {i : Nat} {r : Road} (e : rs[i]? = some r) : sh (rs.take (i + 1)) = shs (sh (rs.take i)) r := by
  unfold sh
  rw [List.take_add_one, e, List.foldl_append]
  rfl
theorem sh_sym (rs : List Road) : ∀ x y, sh rs x y = sh rs y x := by
  have z : ∀ (rs : List Road) (f : Int → Int → Option Int), (∀ x y, f x y = f y x) → ∀ x y, rs.foldl shs f x y = rs.foldl shs f y x := by
    intro rs
    induction rs with
    | nil => intro f h; exact h
    | cons r rs ih =>
      intro f h
      refine ih _ fun x y => ?_
      unfold shs
      by_cases c1 : x = r.2.1 ∧ y = r.1
      · obtain ⟨rfl, rfl⟩ := c1
        rw [if_pos ⟨rfl, rfl⟩]
        split
        · rfl
        · rw [if_pos ⟨rfl, rfl⟩]
      · rw [if_neg c1]
        by_cases c2 : x = r.1 ∧ y = r.2.1
        · obtain ⟨rfl, rfl⟩ := c2
          rw [if_pos ⟨rfl, rfl⟩, if_pos ⟨rfl, rfl⟩]
        · rw [if_neg c2, if_neg fun z => c2 ⟨z.2, z.1⟩, if_neg fun z => c1 ⟨z.2, z.1⟩, h x y]
  exact z rs _ fun _ _ => rfl
def spWithin : Sp := fun vs H Q _ => ∃ x l m : Int, vs = [.int x, .int l, .int m] ∧ Q (.bl (decide (l ≤ x ∧ x ≤ m))) H
def spIsRoad : Sp := fun vs H Q _ => ∃ (t : Addr) (r : Road) (m : Int), vs = [.ref t, .int m] ∧ H t = some (.tup (rdv r)) ∧ Q (.bl (decide (GR m r))) H
def spCome : Sp := fun vs H Q _ => ∃ (rl : Addr) (ts : List Addr) (rs : List Road) (m : Int), vs = [.ref rl] ∧ H rl = some (.lst (ts.map V.ref)) ∧ Tps rdv H ts rs ∧ 1 ≤ m ∧ m ≤ 60 ∧ (∀ r ∈ rs, GR m r) ∧ ∀ (d : Addr) (kvs : List (Key × V)) (H' : Hp), Same H H' → H' d = some (.dK kvs) → (m ≤ (kvs.length : Int) ↔ Conn m rs) → Q (.ref d) H'
def spLookWeb : Sp := fun vs H Q _ => ∃ (w rl : Addr) (ts : List Addr) (m : Int) (rs : List Road), vs = [.ref w] ∧ WebH H w rl ts m rs ∧ GW m rs ∧ ∀ H', Same H H' → Q .non H'
/-- the dict of all shortest roads -/
structure Lens (kvs : List (List Key × V)) (rs : List Road) : Prop where
  val : ∀ x y : Int, valV kvs [.inl x, .inl y] = (sh rs x y).map V.int
  len : kvs.length ≤ 2 * rs.length
def spShort : Sp := fun vs H Q _ => ∃ (w rl : Addr) (ts : List Addr) (m : Int) (rs : List Road), vs = [.ref w] ∧ WebH H w rl ts m rs ∧ rs.length ≤ 120 ∧ ∀ (d : Addr) (kvs : List (List Key × V)) (H' : Hp), Same H H' → H' d = some (.dT kvs) → Lens kvs rs → H d = none → Q (.ref d) H'
def spNever : Sp := fun _ _ _ _ => False
theorem fn_never {P : Program} {w : World} {K : PySem.W.Frag} {mg : Str → Option Value} {base : Heap} {CX : CXT} {k : Nat} {f : Addr} {fd : FuncData} {ps : List Str} : FnOk P w K mg base CX k f fd ps spNever :=
  ⟨fun _ _ _ _ h => h.elim, fun _ _ _ _ _ _ _ _ _ _ _ _ _ h => h.elim⟩
section
variable {P : Program} {w : World} {mg : Str → Option Value} {base : Heap}
variable {K : PySem.W.Frag} {H : Hp} {Q : VK} {a : Ad}
def t_is_whole (K : PySem.W.Frag) : TS :=
  (tRet (tAndV (tCB (rIsi K) (tCons (tVar 0) (tCons (tC (.ty "int")) tNil))) (tNotV (tCB (rIsi K) (tCons (tVar 0) (tCons (tC (.ty "bool")) tNil))))))
theorem rd_is_whole {x : Int} (q : Q (.bl true) H) : t_is_whole K { nx := fun _ H' => Q .non H', rt := Q } (L2.start ["thing"] [.int x]) H := by
  unfold t_is_whole
  simp only [V.str.injEq, V.ty.injEq, tFor_eq, tSeq, tNext, tCB, tCons, tNil, tVar, tC, tAndV, tNotV, tRet, tCall, rI0, L2.start, truV_int, truV_bl, scal_int, scal_bl, List.map_cons, List.map_nil, List.length_cons, List.length_nil, List.replicate, List.cons_append, List.nil_append, List.append_nil, List.getElem?_cons_zero, List.getElem?_cons_succ, Option.some.injEq, exists_eq_left', exists_eq_left, exists_and_left, List.cons.injEq, V.int.injEq, V.ref.injEq, V.bl.injEq, and_true, true_and, List.set_cons_zero, List.set_cons_succ, Nat.reduceAdd, Nat.reduceSub, Int.reduceToNat, Int.reducePow, Int.reduceNeg, Int.reduceMul, Int.reduceAdd, Int.reduceSub, decide_eq_true_eq, Bool.not_eq_true', decide_eq_false_iff_not, exists_const, and_assoc, exists_eq, exists_eq', if_true, if_false, Bool.false_eq_true, Bool.true_eq_false, reduceCtorEq, not_true_eq_false, not_false_eq_true]
  refine isi_int_int ⟨_, rfl, iteT ?_⟩
  exact isi_int_bool ⟨_, rfl, q⟩
theorem sc_is_whole : FnScope ["thing"] ["thing"] (defScope s_is_whole) := ⟨rfl, rfl, rfl, by decide +kernel, rfl, by decide +kernel, by decide +kernel⟩
theorem ok_is_whole (T : Txt K mg a) : FnOk P w K mg base CX0 1 a.f_is_whole a.d_is_whole ["thing"] spWhole := by
  refine T.F_is_whole.ok sc_is_whole (fun vs H Q E h => ?_) (fun cdv A outer s H vs Q E hr h => ?_)
  · obtain ⟨x, rfl, q⟩ := h
    rfl
  obtain ⟨x, rfl, q⟩ := h
  exact ⟨t_is_whole K, (pss_one (ps_ret (pe_and (pe_callB call_isinst rfl T.z_isinstance PyProof.Rows.boot_isinstance (pa_cons (pv 0) (pa_cons (pe_bltn rfl T.z_int boot_int rfl) pa_nil))) (pe_one (pe_not (pe_callB call_isinst rfl T.z_isinstance PyProof.Rows.boot_isinstance (pa_cons (pv 0) (pa_cons (pe_bltn rfl T.z_bool boot_bool rfl) pa_nil)))))))),
    rd_is_whole q⟩

def t_is_within : TS :=
  (tRet (tAndV (tCall spWhole [] E0 (tCons (tVar 0) tNil)) (tChain (rI0 fun i j => .bl (decide (i ≤ j))) (rI0 fun i j => .bl (decide (i ≤ j))) (tVar 1) (tVar 0) (tVar 2))))
theorem rd_is_within {x l m : Int} (q : Q (.bl (decide (l ≤ x ∧ x ≤ m))) H) : t_is_within { nx := fun _ H' => Q .non H', rt := Q } (L2.start ["thing", "least", "most"] [.int x, .int l, .int m]) H := by
  unfold t_is_within
  simp only [tComp_eq, capS, tChain, rAppend, Option.bind_some, Option.bind_none, Option.join_some, Option.map_some, List.getElem?_cons_zero, List.getElem?_cons_succ, V.str.injEq, V.ty.injEq, tFor_eq, tSeq, tNext, tAsg, gName, gTup, gCons, gNil, tCB, tCons, tNil, tVar, tC, tOp, tTest, tB, tOr, tNot, tAndV, tIfS, tRet, tCall, rI0, rNe, L2.start, truV_int, truV_bl, scal_int, scal_bl, List.map_cons, List.map_nil, List.length_cons, List.length_nil, List.replicate, List.cons_append, List.nil_append, List.append_nil, Option.some.injEq, exists_eq_left', exists_eq_left, exists_and_left, List.cons.injEq, V.int.injEq, V.ref.injEq, V.bl.injEq, and_true, true_and, List.set_cons_zero, List.set_cons_succ, Nat.reduceAdd, Nat.reduceSub, Int.reduceToNat, Int.reducePow, Int.reduceNeg, Int.reduceMul, Int.reduceAdd, Int.reduceSub, decide_eq_true_eq, Bool.not_eq_true', decide_eq_false_iff_not, exists_const, and_assoc, exists_eq, exists_eq', if_true, if_false, Bool.false_eq_true, Bool.true_eq_false, reduceCtorEq, not_true_eq_false, not_false_eq_true]
  refine ⟨x, rfl, true, rfl, iteT ?_⟩
  refine ite2 (fun c => ?_) (fun c => ?_)
  · rw [show decide (l ≤ x ∧ x ≤ m) = decide (x ≤ m) from by simp [c]] at q
    exact q
  · rw [show decide (l ≤ x ∧ x ≤ m) = false from by simp [c]] at q
    exact q
theorem sc_is_within : FnScope ["thing", "least", "most"] ["thing", "least", "most"] (defScope s_is_within) := ⟨rfl, rfl, rfl, by decide +kernel, rfl, by decide +kernel, by decide +kernel⟩
theorem ok_is_within (T : Txt K mg a) : FnOk P w K mg base CX0 2 a.f_is_within a.d_is_within ["thing", "least", "most"] spWithin := by
  have G_is_whole := ok_is_whole (P := P) (w := w) (base := base) T
  refine T.F_is_within.ok sc_is_within (fun vs H Q E h => ?_) (fun cdv A outer s H vs Q E hr h => ?_)
  · obtain ⟨x, l, m, rfl, q⟩ := h
    rfl
  obtain ⟨x, l, m, rfl, q⟩ := h
  exact ⟨t_is_within, (pss_one (ps_ret (pe_and (pe_call G_is_whole (hr.mono (by decide)) rfl T.m_is_whole T.F_is_whole.kp T.b_is_whole .nil pass0 (pa_cons (pv 0) pa_nil)) (pe_one (pe_chain op_le op_le (pv 1) (pv 0) (pv 2)))))),
    rd_is_within q⟩

def t_is_road_0 (K : PySem.W.Frag) : TS :=
  (tSeq (tAsg (tVar 0) (gTup K 3 (gCons (gName 2) (gCons (gName 3) (gCons (gName 4) gNil)))))
  (tRet (tAndV (tCall spWithin [] E0 (tCons (tVar 2) (tCons (tC (.int 0)) (tCons (tOp (rI0 fun i j => .int (i - j)) (tVar 1) (tC (.int 1))) tNil)))) (tAndV (tCall spWithin [] E0 (tCons (tVar 3) (tCons (tC (.int 0)) (tCons (tOp (rI0 fun i j => .int (i - j)) (tVar 1) (tC (.int 1))) tNil)))) (tAndV (tOp rNe (tVar 2) (tVar 3)) (tCall spWithin [] E0 (tCons (tVar 4) (tCons (tC (.int 1)) (tCons (tC (.int 1000000)) tNil)))))))))
theorem t_is_road_0_eq (K : PySem.W.Frag) (D : Ends) (σ : St) (H : Hp) : t_is_road_0 K D σ H = (tSeq (tAsg (tVar 0) (gTup K 3 (gCons (gName 2) (gCons (gName 3) (gCons (gName 4) gNil)))))
  (tRet (tAndV (tCall spWithin [] E0 (tCons (tVar 2) (tCons (tC (.int 0)) (tCons (tOp (rI0 fun i j => .int (i - j)) (tVar 1) (tC (.int 1))) tNil)))) (tAndV (tCall spWithin [] E0 (tCons (tVar 3) (tCons (tC (.int 0)) (tCons (tOp (rI0 fun i j => .int (i - j)) (tVar 1) (tC (.int 1))) tNil)))) (tAndV (tOp rNe (tVar 2) (tVar 3)) (tCall spWithin [] E0 (tCons (tVar 4) (tCons (tC (.int 1)) (tCons (tC (.int 1000000)) tNil))))))))) D σ H := rfl
def t_is_road_1 (K : PySem.W.Frag) : TS :=
  (tIfS (tOr (tNot (tB (tCB (rIsi K) (tCons (tVar 0) (tCons (tC (.ty "tuple")) tNil))))) (tTest (tOp rNe (tCB (fun xs H Q => ∃ p ys, xs = [.ref p] ∧ (SqL K H p ys ∨ SqT K H p ys) ∧ Q (.int ys.length) H) (tCons (tVar 0) tNil)) (tC (.int 3))))) (tRet (tC (.bl false))) tNext)
theorem t_is_road_1_eq (K : PySem.W.Frag) (D : Ends) (σ : St) (H : Hp) : t_is_road_1 K D σ H = (tIfS (tOr (tNot (tB (tCB (rIsi K) (tCons (tVar 0) (tCons (tC (.ty "tuple")) tNil))))) (tTest (tOp rNe (tCB (fun xs H Q => ∃ p ys, xs = [.ref p] ∧ (SqL K H p ys ∨ SqT K H p ys) ∧ Q (.int ys.length) H) (tCons (tVar 0) tNil)) (tC (.int 3))))) (tRet (tC (.bl false))) tNext) D σ H := rfl
def t_is_road (K : PySem.W.Frag) : TS :=
  (tSeq (tCut (t_is_road_1 K))
  (t_is_road_0 K))
theorem rd_is_road {t : Addr} {r : Road} {m : Int} (ht : H t = some (.tup (rdv r))) (q : Q (.bl (decide (GR m r))) H) : t_is_road K { nx := fun _ H' => Q .non H', rt := Q } (L2.start ["thing", "many", "a", "b", "length"] [.ref t, .int m]) H := by
  unfold t_is_road
  simp only [t_is_road_0_eq, t_is_road_1_eq, tDIn, sDPut, tDisp, tPairs, rLenD, tComp_eq, capS, rAppend, Option.bind_some, Option.bind_none, Option.join_some, Option.map_some, List.getElem?_cons_zero, List.getElem?_cons_succ, V.str.injEq, V.ty.injEq, tFor_eq, iList, tSeq, tNext, tAsg, gName, gTup, gCons, gNil, tCB, tCons, tNil, tVar, tC, tOp, tTest, tB, tOr, tNot, tAndV, tIfS, tRet, tCall, rI0, rNe, L2.start, truV_int, truV_bl, scal_int, scal_bl, List.map_cons, List.map_nil, List.length_cons, List.length_nil, List.replicate, List.cons_append, List.nil_append, List.append_nil, Option.some.injEq, exists_eq_left', exists_eq_left, exists_and_left, List.cons.injEq, V.int.injEq, V.ref.injEq, V.bl.injEq, and_true, true_and, List.set_cons_zero, List.set_cons_succ, Nat.reduceAdd, Nat.reduceSub, Int.reduceToNat, Int.reducePow, Int.reduceNeg, Int.reduceMul, Int.reduceAdd, Int.reduceSub, decide_eq_true_eq, Bool.not_eq_true', decide_eq_false_iff_not, exists_const, and_assoc, exists_eq, exists_eq', if_true, if_false, Bool.false_eq_true, Bool.true_eq_false, reduceCtorEq, not_true_eq_false, not_false_eq_true]
  refine ⟨fun σ H' => H' = H ∧ σ = [some (.ref t), some (.int m), none, none, none], ?_, ?_⟩
  · simp only [t_is_road_0_eq, t_is_road_1_eq, tDIn, sDPut, tDisp, tPairs, rLenD, tComp_eq, capS, rAppend, Option.bind_some, Option.bind_none, Option.join_some, Option.map_some, List.getElem?_cons_zero, List.getElem?_cons_succ, V.str.injEq, V.ty.injEq, tFor_eq, iList, tSeq, tNext, tAsg, gName, gTup, gCons, gNil, tCB, tCons, tNil, tVar, tC, tOp, tTest, tB, tOr, tNot, tAndV, tIfS, tRet, tCall, rI0, rNe, L2.start, truV_int, truV_bl, scal_int, scal_bl, List.map_cons, List.map_nil, List.length_cons, List.length_nil, List.replicate, List.cons_append, List.nil_append, List.append_nil, Option.some.injEq, exists_eq_left', exists_eq_left, exists_and_left, List.cons.injEq, V.int.injEq, V.ref.injEq, V.bl.injEq, and_true, true_and, List.set_cons_zero, List.set_cons_succ, Nat.reduceAdd, Nat.reduceSub, Int.reduceToNat, Int.reducePow, Int.reduceNeg, Int.reduceMul, Int.reduceAdd, Int.reduceSub, decide_eq_true_eq, Bool.not_eq_true', decide_eq_false_iff_not, exists_const, and_assoc, exists_eq, exists_eq', if_true, if_false, Bool.false_eq_true, Bool.true_eq_false, reduceCtorEq, not_true_eq_false, not_false_eq_true]
    refine isi_tup_tup ht ⟨true, rfl, ?_⟩
    refine ite2 (fun z => absurd z (by decide)) (fun _ => ?_)
    refine ⟨_, .inr (SqT.of ht), ?_⟩
    exact ite2 (fun z => absurd rfl z) (fun _ => rfl)
  · rintro σ H' ⟨e, rfl⟩
    rw [e]
    simp only [t_is_road_0_eq, t_is_road_1_eq, tDIn, sDPut, tDisp, tPairs, rLenD, tComp_eq, capS, rAppend, Option.bind_some, Option.bind_none, Option.join_some, Option.map_some, List.getElem?_cons_zero, List.getElem?_cons_succ, V.str.injEq, V.ty.injEq, tFor_eq, iList, tSeq, tNext, tAsg, gName, gTup, gCons, gNil, tCB, tCons, tNil, tVar, tC, tOp, tTest, tB, tOr, tNot, tAndV, tIfS, tRet, tCall, rI0, rNe, L2.start, truV_int, truV_bl, scal_int, scal_bl, List.map_cons, List.map_nil, List.length_cons, List.length_nil, List.replicate, List.cons_append, List.nil_append, List.append_nil, Option.some.injEq, exists_eq_left', exists_eq_left, exists_and_left, List.cons.injEq, V.int.injEq, V.ref.injEq, V.bl.injEq, and_true, true_and, List.set_cons_zero, List.set_cons_succ, Nat.reduceAdd, Nat.reduceSub, Int.reduceToNat, Int.reducePow, Int.reduceNeg, Int.reduceMul, Int.reduceAdd, Int.reduceSub, decide_eq_true_eq, Bool.not_eq_true', decide_eq_false_iff_not, exists_const, and_assoc, exists_eq, exists_eq', if_true, if_false, Bool.false_eq_true, Bool.true_eq_false, reduceCtorEq, not_true_eq_false, not_false_eq_true]
    refine ⟨_, SqT.of ht, rfl, _, _, rfl, _, _, rfl, _, _, rfl, rfl, ?_⟩
    refine ⟨_, _, _, rfl, _, rfl, ite2 (fun c1 => ?_) (fun c1 => ?_)⟩
    · have c1 := of_decide_eq_true c1
      refine ⟨_, _, _, rfl, _, rfl, ite2 (fun c2 => ?_) (fun c2 => ?_)⟩
      · have c2 := of_decide_eq_true c2
        simp only [t_is_road_0_eq, t_is_road_1_eq, tDIn, sDPut, tDisp, tPairs, rLenD, tComp_eq, capS, rAppend, Option.bind_some, Option.bind_none, Option.join_some, Option.map_some, List.getElem?_cons_zero, List.getElem?_cons_succ, V.str.injEq, V.ty.injEq, tFor_eq, iList, tSeq, tNext, tAsg, gName, gTup, gCons, gNil, tCB, tCons, tNil, tVar, tC, tOp, tTest, tB, tOr, tNot, tAndV, tIfS, tRet, tCall, rI0, rNe, L2.start, truV_int, truV_bl, scal_int, scal_bl, List.map_cons, List.map_nil, List.length_cons, List.length_nil, List.replicate, List.cons_append, List.nil_append, List.append_nil, Option.some.injEq, exists_eq_left', exists_eq_left, exists_and_left, List.cons.injEq, V.int.injEq, V.ref.injEq, V.bl.injEq, and_true, true_and, List.set_cons_zero, List.set_cons_succ, Nat.reduceAdd, Nat.reduceSub, Int.reduceToNat, Int.reducePow, Int.reduceNeg, Int.reduceMul, Int.reduceAdd, Int.reduceSub, decide_eq_true_eq, Bool.not_eq_true', decide_eq_false_iff_not, exists_const, and_assoc, exists_eq, exists_eq', if_true, if_false, Bool.false_eq_true, Bool.true_eq_false, reduceCtorEq, not_true_eq_false, not_false_eq_true]
        refine ite2 (fun c3 => ?_) (fun c3 => ?_)
        · refine ⟨_, _, _, rfl, ?_⟩
          rw [show decide (GR m r) = decide (1 ≤ r.2.2 ∧ r.2.2 ≤ 1000000) from decide_eq_decide.mpr ⟨fun z => z.2.2.2.2.2, fun z => ⟨by omega, by omega, by omega, by omega, c3, z⟩⟩] at q
          exact q
        · rw [decide_eq_false (p := GR m r) fun z => c3 z.2.2.2.2.1] at q
          exact q
      · rw [decide_eq_false (p := GR m r) fun z => c2 (decide_eq_true ⟨z.2.2.1, by have := z.2.2.2.1; omega⟩)] at q
        exact q
    · rw [decide_eq_false (p := GR m r) fun z => c1 (decide_eq_true ⟨z.1, by have := z.2.1; omega⟩)] at q
      exact q
theorem sc_is_road : FnScope ["thing", "many", "a", "b", "length"] ["thing", "many"] (defScope s_is_road) := ⟨rfl, rfl, rfl, by decide +kernel, rfl, by decide +kernel, by decide +kernel⟩
theorem ok_is_road (T : Txt K mg a) : FnOk P w K mg base CX0 3 a.f_is_road a.d_is_road ["thing", "many"] spIsRoad := by
  have G_is_within := ok_is_within (P := P) (w := w) (base := base) T
  refine T.F_is_road.ok sc_is_road (fun vs H Q E h => ?_) (fun cdv A outer s H vs Q E hr h => ?_)
  · obtain ⟨t, r, m, rfl, ht, q⟩ := h
    rfl
  obtain ⟨t, r, m, rfl, ht, q⟩ := h
  exact ⟨t_is_road K, (pss_cons (ps_cut (ps_if (PW.pt (pw_or (pt_not (pt_val (pe_callB call_isinst rfl T.z_isinstance PyProof.Rows.boot_isinstance (pa_cons (pv 0) (pa_cons (pe_bltn rfl T.z_tuple boot_tuple rfl) pa_nil))))) (pw_or1 (pt_cmpR op_ne (pe_callB call_len_seq rfl T.z_len PySem.boot_len (pa_cons (pv 0) pa_nil)) pe_int (nomark _))))) (pss_one (ps_ret pe_bl)) pss_nil))
  (pss_cons (ps_asg (pv 0) (pg_tup rfl (pgs_cons (pg_name (i := 2) sc_is_road.nd rfl (Or.inl rfl)) (pgs_cons (pg_name (i := 3) sc_is_road.nd rfl (Or.inl rfl)) (pgs_cons (pg_name (i := 4) sc_is_road.nd rfl (Or.inl rfl)) pgs_nil)))))
  (pss_one (ps_ret (pe_and (pe_call G_is_within (hr.mono (by decide)) rfl T.m_is_within T.F_is_within.kp T.b_is_within .nil pass0 (pa_cons (pv 2) (pa_cons pe_int (pa_cons (pe_op op_sub (pv 1) pe_int) pa_nil)))) (pe_and (pe_call G_is_within (hr.mono (by decide)) rfl T.m_is_within T.F_is_within.kp T.b_is_within .nil pass0 (pa_cons (pv 3) (pa_cons pe_int (pa_cons (pe_op op_sub (pv 1) pe_int) pa_nil)))) (pe_and (pe_cmpR op_ne (pv 2) (pv 3) (nomark _)) (pe_one (pe_call G_is_within (hr.mono (by decide)) rfl T.m_is_within T.F_is_within.kp T.b_is_within .nil pass0 (pa_cons (pv 4) (pa_cons pe_int (pa_cons (pe_glob rfl T.m_MOST_LENGTH ⟨_, rfl⟩) pa_nil)))))))))))),
    rd_is_road ht q⟩

theorem nodup_len {α : Type} [DecidableEq α] : ∀ (a b : List α), a.Nodup → (∀ x ∈ a, x ∈ b) → a.length ≤ b.length
  | [], b, _, _ => Nat.zero_le _
  | x :: a, b, nd, h => by
    obtain ⟨n1, n2⟩ := List.nodup_cons.mp nd
    have hx := h x (by simp)
    have ih := nodup_len a (b.erase x) n2 fun y hy => (List.mem_erase_of_ne fun (e : y = x) => n1 (e ▸ hy)).mpr (h y (by simp [hy]))
    rw [List.length_erase_of_mem hx] at ih
    have := List.length_pos_of_mem hx
    rw [List.length_cons]
    omega
/-- the places that a dict has -/
def Dm (kvs : List (Key × V)) (x : Int) : Prop := valV kvs (.inl x) ≠ none
def keysOf {κ : Type} (kvs : List (κ × V)) : List κ := kvs.map (·.1)
theorem val_mem {κ : Type} [DecidableEq κ] (kvs : List (κ × V)) (k : κ) : valV kvs k ≠ none ↔ k ∈ keysOf kvs := by
  induction kvs with
  | nil => simp [valV, keysOf]
  | cons p r ih =>
    by_cases e : p.1 = k
    · rw [valV_pos e]
      simp [keysOf, e]
    · rw [valV_neg e, ih]
      unfold keysOf
      rw [List.map_cons, List.mem_cons]
      exact ⟨.inr, fun h => h.resolve_left fun z => e z.symm⟩
theorem keys_put {κ : Type} [DecidableEq κ] (kvs : List (κ × V)) (k : κ) (v : V) : keysOf (putK kvs k v) = if valV kvs k = none then keysOf kvs ++ [k] else keysOf kvs := by
  by_cases c : valV kvs k = none
  · rw [if_pos c, putK_new v c]
    simp [keysOf]
  · rw [if_neg c]
    unfold putK
    rw [valV_any, if_pos (Option.isSome_iff_ne_none.mpr c)]
    unfold keysOf
    rw [List.map_map]
    refine List.map_congr_left fun p _ => ?_
    simp only [Function.comp]
    split <;> rfl
theorem keys_len {κ : Type} (kvs : List (κ × V)) : (keysOf kvs).length = kvs.length := List.length_map ..
theorem put_len {κ : Type} [DecidableEq κ] (kvs : List (κ × V)) (k : κ) (v : V) : (putK kvs k v).length = if valV kvs k = none then kvs.length + 1 else kvs.length := by
  rw [← keys_len, keys_put]
  split
  · rw [List.length_append, keys_len]
    rfl
  · rw [keys_len]
theorem dm_put (kvs : List (Key × V)) (y x : Int) (v : V) : Dm (putK kvs (.inl y) v) x ↔ x = y ∨ Dm kvs x := by
  unfold Dm
  rw [valV_put]
  by_cases e : x = y
  · subst e
    simp
  · rw [if_neg fun z => e (Sum.inl.inj z)]
    exact ⟨.inr, fun h => h.resolve_left e⟩
def Clo (rs : List Road) (S : Int → Prop) : Prop := ∀ r ∈ rs, S r.1 ∨ S r.2.1 → S r.1 ∧ S r.2.1
structure Cm (m : Int) (rs : List Road) (kvs : List (Key × V)) : Prop where
  nd : (keysOf kvs).Nodup
  inR : ∀ k ∈ keysOf kvs, ∃ x : Int, k = .inl x ∧ 0 ≤ x ∧ x < m
  zero : Dm kvs 0
  least : ∀ S : Int → Prop, S 0 → Clo rs S → ∀ x, Dm kvs x → S x
theorem Cm.put {m : Int} {rs : List Road} {kvs : List (Key × V)} (h : Cm m rs kvs) {y : Int} (v : V) (y0 : 0 ≤ y) (y1 : y < m) (hy : ∀ S : Int → Prop, S 0 → Clo rs S → S y) : Cm m rs (putK kvs (.inl y) v) := by
  refine ⟨?_, ?_, (dm_put ..).mpr (.inr h.zero), fun S s0 sc x hx => ?_⟩
  · rw [keys_put]
    split
    · rename_i c
      refine List.nodup_append.mpr ⟨h.nd, by simp, fun a ha b hb e => ?_⟩
      have : b = .inl y := by simpa using hb
      subst this
      subst e
      exact (val_mem ..).mpr ha c
    · exact h.nd
  · rw [keys_put]
    split
    · intro k hk
      rcases List.mem_append.mp hk with z | z
      · exact h.inR k z
      · exact ⟨y, by simpa using z, y0, y1⟩
    · exact h.inR
  · rcases (dm_put ..).mp hx with rfl | z
    · exact hy S s0 sc
    · exact h.least S s0 sc x z
theorem Cm.le {m : Int} {rs : List Road} {kvs : List (Key × V)} (h : Cm m rs kvs) (m0 : 0 ≤ m) : (kvs.length : Int) ≤ m := by
  have := nodup_len (keysOf kvs) ((List.range m.toNat).map fun k : Nat => (Sum.inl (k : Int) : Key)) h.nd fun k hk => by
    obtain ⟨x, rfl, x0, x1⟩ := h.inR k hk
    exact List.mem_map.mpr ⟨x.toNat, List.mem_range.mpr (by omega), by rw [Int.toNat_of_nonneg x0]⟩
  rw [keys_len, List.length_map, List.length_range] at this
  omega
/-- all places stand in it just where there are as many -/
theorem Cm.all {m : Int} {rs : List Road} {kvs : List (Key × V)} (h : Cm m rs kvs) (m0 : 0 ≤ m) : m ≤ (kvs.length : Int) ↔ ∀ x, 0 ≤ x → x < m → Dm kvs x := by
  constructor
  · intro hl x x0 x1
    refine Classical.byContradiction fun c => ?_
    have hx : (Sum.inl x : Key) ∉ keysOf kvs := fun z => c ((val_mem ..).mpr z)
    have := nodup_len (Sum.inl x :: keysOf kvs) ((List.range m.toNat).map fun k : Nat => (Sum.inl (k : Int) : Key)) (List.nodup_cons.mpr ⟨hx, h.nd⟩) fun k hk => by
      have : ∃ y : Int, k = .inl y ∧ 0 ≤ y ∧ y < m := by
        rcases List.mem_cons.mp hk with z | z
        · exact ⟨x, z, x0, x1⟩
        · exact h.inR k z
      obtain ⟨y, rfl, y0, y1⟩ := this
      exact List.mem_map.mpr ⟨y.toNat, List.mem_range.mpr (by omega), by rw [Int.toNat_of_nonneg y0]⟩
    rw [List.length_cons, keys_len, List.length_map, List.length_range] at this
    omega
  · intro hx
    have := nodup_len ((List.range m.toNat).map fun k : Nat => (Sum.inl (k : Int) : Key)) (keysOf kvs) ?_ fun k hk => ?_
    · rw [keys_len, List.length_map, List.length_range] at this
      omega
    · refine List.nodup_iff_pairwise_ne.mpr (List.pairwise_map.mpr ((List.nodup_iff_pairwise_ne.mp List.nodup_range).imp fun h e => h ?_))
      have := Sum.inl.inj e
      omega
    · obtain ⟨x, hx1, rfl⟩ := List.mem_map.mp hk
      have := List.mem_range.mp hx1
      exact (val_mem ..).mp (hx x (by omega) (by omega))
theorem Cm.conn {m : Int} {rs : List Road} {kvs : List (Key × V)} (h : Cm m rs kvs) (m0 : 0 ≤ m) (c : Clo rs (Dm kvs)) : m ≤ (kvs.length : Int) ↔ Conn m rs := by
  rw [h.all m0]
  exact ⟨fun z S s0 sc x x0 x1 => h.least S s0 sc x (z x x0 x1), fun z x x0 x1 => z (Dm kvs) h.zero c x x0 x1⟩
def t_places_come_to_0 : TS :=
  (tIfS (tOr (tB (tDIn (tVar 3) (tVar 1))) (tB (tDIn (tVar 4) (tVar 1)))) (tSeq (sDPut (tVar 1) (tVar 3) (tC (.bl true)))
  (sDPut (tVar 1) (tVar 4) (tC (.bl true)))) tNext)
theorem t_places_come_to_0_eq (D : Ends) (σ : St) (H : Hp) : t_places_come_to_0 D σ H = (tIfS (tOr (tB (tDIn (tVar 3) (tVar 1))) (tB (tDIn (tVar 4) (tVar 1)))) (tSeq (sDPut (tVar 1) (tVar 3) (tC (.bl true)))
  (sDPut (tVar 1) (tVar 4) (tC (.bl true)))) tNext) D σ H := rfl
def t_places_come_to_1 (K : PySem.W.Frag) : TS :=
  (tSeq (tAsg (tCB rLenD (tCons (tVar 1) tNil)) (gName 2))
  (tFor (iList K (tVar 0)) (gTup K 3 (gCons (gName 3) (gCons (gName 4) (gCons (gName 5) gNil))))
  (t_places_come_to_0)))
theorem t_places_come_to_1_eq (K : PySem.W.Frag) (D : Ends) (σ : St) (H : Hp) : t_places_come_to_1 K D σ H = (tSeq (tAsg (tCB rLenD (tCons (tVar 1) tNil)) (gName 2))
  (tFor (iList K (tVar 0)) (gTup K 3 (gCons (gName 3) (gCons (gName 4) (gCons (gName 5) gNil))))
  (t_places_come_to_0))) D σ H := rfl
def t_places_come_to (K : PySem.W.Frag) : TS :=
  (tSeq (tAsg (tDisp (((tC (.int 0)), (tC (.bl true))) :: [])) (gName 1))
  (tSeq (tAsg (tC (.int 0)) (gName 2))
  (tSeq (tWhile (tTest (tOp (rI0 fun i j => .bl (decide (i < j))) (tVar 2) (tCB rLenD (tCons (tVar 1) tNil)))) (t_places_come_to_1 K))
  (tRet (tVar 1)))))
theorem rd_places_come_to {rl : Addr} {ts : List Addr} {rs : List Road} {m : Int} (hl : H rl = some (.lst (ts.map V.ref))) (ht : Tps rdv H ts rs) (m1 : 1 ≤ m) (m60 : m ≤ 60) (gr : ∀ r ∈ rs, GR m r)
    (q : ∀ (d : Addr) (kvs : List (Key × V)) (H' : Hp), Same H H' → H' d = some (.dK kvs) → (m ≤ (kvs.length : Int) ↔ Conn m rs) → Q (.ref d) H') :
    t_places_come_to K { nx := fun _ H' => Q .non H', rt := Q } (L2.start ["roads", "come", "before", "a", "b", "length"] [.ref rl]) H := by
  unfold t_places_come_to
  simp only [t_places_come_to_0_eq, t_places_come_to_1_eq, tDIn, sDPut, tDisp, tPairs, rLenD, iEnum, tComp_eq, capS, tChain, rAppend, Option.bind_some, Option.bind_none, Option.join_some, Option.map_some, List.getElem?_cons_zero, List.getElem?_cons_succ, V.str.injEq, V.ty.injEq, tFor_eq, iList, tSeq, tNext, tAsg, gName, gTup, gCons, gNil, tCB, tCons, tNil, tVar, tC, tOp, tTest, tB, tOr, tNot, tIfS, tRet, tCall, rI0, rNe, rIxT, L2.start, truV_int, truV_bl, scal_int, scal_bl, List.map_cons, List.map_nil, List.length_cons, List.length_nil, List.replicate, List.cons_append, List.nil_append, List.append_nil, Option.some.injEq, exists_eq_left', exists_eq_left, exists_and_left, List.cons.injEq, V.int.injEq, V.ref.injEq, V.bl.injEq, and_true, true_and, List.set_cons_zero, List.set_cons_succ, Nat.reduceAdd, Nat.reduceSub, Int.reduceToNat, Int.reducePow, Int.reduceNeg, Int.reduceMul, Int.reduceAdd, Int.reduceSub, decide_eq_true_eq, Bool.not_eq_true', decide_eq_false_iff_not, exists_const, and_assoc, exists_eq, exists_eq', if_true, if_false, Bool.false_eq_true, Bool.true_eq_false, reduceCtorEq, not_true_eq_false, not_false_eq_true]
  refine fun d hd => ⟨upd_same, [(.inl 0, .bl true)], rfl, by decide, ?_⟩
  refine while_W (m := 100) (fun n σ H' => ∃ (kvs : List (Key × V)) (bf : Int) (x y z : Option V), σ = [some (.ref rl), some (.ref d), some (.int bf), x, y, z] ∧ Same H H' ∧ H' d = some (.dK kvs) ∧ Cm m rs kvs ∧ 0 ≤ bf ∧ bf ≤ (kvs.length : Int) ∧ (bf = (kvs.length : Int) → Clo rs (Dm kvs)) ∧ n = (100 - bf).toNat) ?_ ?_
  · refine ⟨[(.inl 0, .bl true)], 0, _, _, _, rfl, ?_, upd_same, ⟨by decide, ?_, (fun z => nomatch z), fun S s0 _ x hx => ?_⟩, by decide, by decide, (fun z => absurd z (by decide)), by decide⟩
    · rw [upd_upd]
      exact same_new hd _
    · intro k hk
      have : k = .inl 0 := by simpa [keysOf] using hk
      exact ⟨0, this, by decide, by omega⟩
    · have : x = 0 := by
        refine Classical.byContradiction fun c => hx ?_
        exact valV_neg (p := (Sum.inl 0, V.bl true)) fun z => c (Sum.inl.inj z).symm
      subst this
      exact s0
  · rintro n σ H1 ⟨kvs, bf, x, y, z, rfl, s1, h1, C, b0, b1, bc, rfl⟩
    simp only [t_places_come_to_0_eq, t_places_come_to_1_eq, tDIn, sDPut, tDisp, tPairs, rLenD, iEnum, tComp_eq, capS, tChain, rAppend, Option.bind_some, Option.bind_none, Option.join_some, Option.map_some, List.getElem?_cons_zero, List.getElem?_cons_succ, V.str.injEq, V.ty.injEq, tFor_eq, iList, tSeq, tNext, tAsg, gName, gTup, gCons, gNil, tCB, tCons, tNil, tVar, tC, tOp, tTest, tB, tOr, tNot, tIfS, tRet, tCall, rI0, rNe, rIxT, L2.start, truV_int, truV_bl, scal_int, scal_bl, List.map_cons, List.map_nil, List.length_cons, List.length_nil, List.replicate, List.cons_append, List.nil_append, List.append_nil, Option.some.injEq, exists_eq_left', exists_eq_left, exists_and_left, List.cons.injEq, V.int.injEq, V.ref.injEq, V.bl.injEq, and_true, true_and, List.set_cons_zero, List.set_cons_succ, Nat.reduceAdd, Nat.reduceSub, Int.reduceToNat, Int.reducePow, Int.reduceNeg, Int.reduceMul, Int.reduceAdd, Int.reduceSub, decide_eq_true_eq, Bool.not_eq_true', decide_eq_false_iff_not, exists_const, and_assoc, exists_eq, exists_eq', if_true, if_false, Bool.false_eq_true, Bool.true_eq_false, reduceCtorEq, not_true_eq_false, not_false_eq_true]
    refine ⟨_, h1, ?_⟩
    have hle := C.le (by omega)
    refine ite2 (fun c => ?_) (fun c => ?_)
    · refine ⟨_, fun _ _ h => h, _, h1, ?_⟩
      refine ⟨⟨_, SqL.of (s1 _ _ hl)⟩, ?_⟩
      refine for_listF (K := K) (xs := ts.map V.ref) (fun i σ H' => ∃ (kv : List (Key × V)) (x y z : Option V), σ = [some (.ref rl), some (.ref d), some (.int kvs.length), x, y, z] ∧ Same H H' ∧ H' d = some (.dK kv) ∧ Cm m rs kv ∧ kvs.length ≤ kv.length ∧ (kv.length = kvs.length → Clo (rs.take i) (Dm kv))) ⟨kvs, _, _, _, rfl, s1, h1, C, Nat.le_refl _, fun _ r hr => by simp at hr⟩ ?_ ?_ ?_
      · rintro i σ H' _ ⟨kv, x, y, z, rfl, s, _⟩
        exact SqL.of (s _ _ hl)
      · rintro i t σ H2 hx ⟨kv, x, y, z, rfl, s2, h2, C2, l2, c2⟩
        obtain ⟨t, et, rfl⟩ := map_at hx
        obtain ⟨r, er, hr0⟩ := ht.at et
        have hr2 := s2 _ _ hr0
        have gr' := gr r (mem_at er)
        have mr := mem_at er
        have stepc : ∀ {kv' : List (Key × V)}, (∀ x, Dm kv' x ↔ Dm kv x) → kv.length = kvs.length → (Dm kv r.1 ∨ Dm kv r.2.1 → Dm kv r.1 ∧ Dm kv r.2.1) → Clo (rs.take (i + 1)) (Dm kv') := by
          intro kv' e el hr' r' hr1
          rw [List.take_add_one, er] at hr1
          rw [e, e]
          rcases List.mem_append.mp hr1 with w | w
          · exact c2 el r' w
          · have : r' = r := by simpa using w
            subst this
            exact hr'
        simp only [t_places_come_to_0_eq, t_places_come_to_1_eq, tDIn, sDPut, tDisp, tPairs, rLenD, iEnum, tComp_eq, capS, tChain, rAppend, Option.bind_some, Option.bind_none, Option.join_some, Option.map_some, List.getElem?_cons_zero, List.getElem?_cons_succ, V.str.injEq, V.ty.injEq, tFor_eq, iList, tSeq, tNext, tAsg, gName, gTup, gCons, gNil, tCB, tCons, tNil, tVar, tC, tOp, tTest, tB, tOr, tNot, tIfS, tRet, tCall, rI0, rNe, rIxT, L2.start, truV_int, truV_bl, scal_int, scal_bl, List.map_cons, List.map_nil, List.length_cons, List.length_nil, List.replicate, List.cons_append, List.nil_append, List.append_nil, Option.some.injEq, exists_eq_left', exists_eq_left, exists_and_left, List.cons.injEq, V.int.injEq, V.ref.injEq, V.bl.injEq, and_true, true_and, List.set_cons_zero, List.set_cons_succ, Nat.reduceAdd, Nat.reduceSub, Int.reduceToNat, Int.reducePow, Int.reduceNeg, Int.reduceMul, Int.reduceAdd, Int.reduceSub, decide_eq_true_eq, Bool.not_eq_true', decide_eq_false_iff_not, exists_const, and_assoc, exists_eq, exists_eq', if_true, if_false, Bool.false_eq_true, Bool.true_eq_false, reduceCtorEq, not_true_eq_false, not_false_eq_true]
        refine ⟨_, SqT.of hr2, rfl, _, _, rfl, _, _, rfl, _, _, rfl, rfl, ?_⟩
        refine ⟨_, DGet.k (k := .inl r.1) h2, ?_⟩
        have yes : Dm kv r.1 ∨ Dm kv r.2.1 → ∀ (H3 : Hp), H3 = H2 → ∃ (H4 : Hp), DPut H3 d (.int r.1) (.bl true) H4 ∧ ∃ (H5 : Hp), DPut H4 d (.int r.2.1) (.bl true) H5 ∧ Same H H5 ∧ ∃ (kv : List (Key × V)), H5 d = some (.dK kv) ∧ Cm m rs kv ∧ kvs.length ≤ kv.length ∧ (kv.length = kvs.length → Clo (rs.take (i + 1)) (Dm kv)) := by
          rintro hor H3 rfl
          have hS : ∀ S : Int → Prop, S 0 → Clo rs S → S r.1 ∧ S r.2.1 := fun S s0 sc => sc r mr (hor.imp (C2.least S s0 sc _) (C2.least S s0 sc _))
          have C3 := C2.put (.bl true) gr'.1 gr'.2.1 fun S s0 sc => (hS S s0 sc).1
          have C4 := C3.put (.bl true) gr'.2.2.1 gr'.2.2.2.1 fun S s0 sc => (hS S s0 sc).2
          have le2 := C2.le (by omega)
          have le3 := C3.le (by omega)
          have big : (100 : Nat) < sizeLine := by decide
          have e3 := put_len kv (.inl r.1) (.bl true)
          have e4 := put_len (putK kv (.inl r.1) (.bl true)) (.inl r.2.1) (.bl true)
          refine ⟨_, DPut.k (k := .inl r.1) h2 (by omega), _, DPut.k (k := .inl r.2.1) upd_same (by omega), ?_, _, upd_same, C4, ?_, fun el => ?_⟩
          · exact (s2.put hd).put hd
          · rw [e4, e3]
            split <;> split <;> omega
          · have k3 : valV kv (.inl r.1) ≠ none := fun z => by
              rw [if_pos z] at e3
              rw [el] at e4
              split at e4 <;> omega
            rw [if_neg k3] at e3
            have k4 : valV (putK kv (.inl r.1) (.bl true)) (.inl r.2.1) ≠ none := fun z => by
              rw [if_pos z, el] at e4
              omega
            have d4 : Dm kv r.2.1 := by
              have := (dm_put kv r.1 r.2.1 (.bl true)).mp k4
              rcases this with z | z
              · exact absurd z.symm gr'.2.2.2.2.1
              · exact z
            refine stepc (fun x => ?_) ?_ fun _ => ⟨k3, d4⟩
            · rw [dm_put, dm_put]
              exact ⟨fun z => z.elim (fun e => by rw [e]; exact d4) (fun z => z.elim (fun e => by rw [e]; exact k3) id), fun z => .inr (.inr z)⟩
            · rw [if_neg k4, el] at e4
              omega
        refine ite2 (fun c3 => ?_) (fun c3 => ?_)
        · exact yes (.inl (Option.isSome_iff_ne_none.mp c3)) H2 rfl
        refine ⟨_, DGet.k (k := .inl r.2.1) h2, ?_⟩
        refine ite2 (fun c4 => ?_) (fun c4 => ?_)
        · exact yes (.inr (Option.isSome_iff_ne_none.mp c4)) H2 rfl
        refine ⟨s2, kv, h2, C2, l2, fun el => stepc (fun _ => Iff.rfl) el fun z => ?_⟩
        exact (z.elim (fun z => c3 (Option.isSome_iff_ne_none.mpr z)) (fun z => c4 (Option.isSome_iff_ne_none.mpr z))).elim
      · rintro σ H2 ⟨kv, x, y, z, rfl, s2, h2, C2, l2, c2⟩
        have e : (rs.take (ts.map V.ref).length) = rs := List.take_of_length_le (by rw [List.length_map, ht.1]; exact Nat.le_refl _)
        rw [e] at c2
        refine ⟨_, ?_, kv, _, _, _, _, rfl, s2, h2, C2, by omega, by omega, fun z => c2 (by omega), rfl⟩
        omega
    · refine q d kvs H1 s1 h1 (C.conn (by omega) (bc (by omega)))
theorem sc_places_come_to : FnScope ["roads", "come", "before", "a", "b", "length"] ["roads"] (defScope s_places_come_to) := ⟨rfl, rfl, rfl, by decide +kernel, rfl, by decide +kernel, by decide +kernel⟩
theorem ok_places_come_to (T : Txt K mg a) : FnOk P w K mg base CX0 1 a.f_places_come_to a.d_places_come_to ["roads"] spCome := by
  refine T.F_places_come_to.ok sc_places_come_to (fun vs H Q E h => ?_) (fun cdv A outer s H vs Q E hr h => ?_)
  · obtain ⟨rl, ts, rs, m, rfl, hl, ht, m1, m60, gr, q⟩ := h
    rfl
  obtain ⟨rl, ts, rs, m, rfl, hl, ht, m1, m60, gr, q⟩ := h
  exact ⟨t_places_come_to K, (pss_cons (ps_set (i := 1) sc_places_come_to.nd rfl (Or.inl rfl) (pe_disp (pps_cons pe_int pe_bl pps_nil) rfl rfl (fun z => nomatch z) (by decide)))
  (pss_cons (ps_set (i := 2) sc_places_come_to.nd rfl (Or.inl rfl) pe_int)
  (pss_cons (ps_while PassesOwn.never (pt_cmpR op_lt (pv 2) (pe_callB call_lenD rfl T.z_len PySem.boot_len (pa_cons (pv 1) pa_nil)) (nomark _)) (pss_cons (ps_set (i := 2) sc_places_come_to.nd rfl (Or.inl rfl) (pe_callB call_lenD rfl T.z_len PySem.boot_len (pa_cons (pv 1) pa_nil)))
  (pss_one (ps_for PassesOwn.never rfl (pi_list (pv 0)) (pg_tup rfl (pgs_cons (pg_name (i := 3) sc_places_come_to.nd rfl (Or.inl rfl)) (pgs_cons (pg_name (i := 4) sc_places_come_to.nd rfl (Or.inl rfl)) (pgs_cons (pg_name (i := 5) sc_places_come_to.nd rfl (Or.inl rfl)) pgs_nil))))
  (pss_one (ps_if (PW.pt (pw_or (pt_cmp (pc_din (hu_of hr) (pv 3) (pv 1))) (pw_or1 (pt_cmp (pc_din (hu_of hr) (pv 4) (pv 1)))))) (pss_cons (ps_dput (hu_of hr) (pv 1) (pv 3) pe_bl rfl)
  (pss_one (ps_dput (hu_of hr) (pv 1) (pv 4) pe_bl rfl))) pss_nil))))))
  (pss_one (ps_ret (pv 1)))))),
    rd_places_come_to hl ht m1 m60 gr q⟩

theorem isi_lst_lst {K : PySem.W.Frag} {H : Hp} {Q : VK} {r : Addr} {xs : List V} (h : H r = some (.lst xs)) (q : Q (.bl true) H) : rIsi K [.ref r, .ty "list"] H Q := ⟨_, _, _, _, true, rfl, rfl, .of (.lst h), rfl, q⟩
def t_look_web_0 (K : PySem.W.Frag) : TS :=
  (tIfS (tOr (tNot (tTest (tChain (rI0 fun i j => .bl (decide (i ≤ j))) (rI0 fun i j => .bl (decide (i ≤ j))) (tC (.int 1)) (tVar 1) (tC (.int 60))))) (tOr (tTest (tOp (rI0 fun i j => .bl (decide (j < i))) (tCB (fun xs H Q => ∃ p ys, xs = [.ref p] ∧ (SqL K H p ys ∨ SqT K H p ys) ∧ Q (.int ys.length) H) (tCons (tVar 2) tNil)) (tC (.int 120)))) (tTest (tOp (rI0 fun i j => .bl (decide (i < j))) (tCB rLenD (tCons (tCall spCome [] E0 (tCons (tVar 2) tNil)) tNil)) (tVar 1))))) tNever tNext)
theorem t_look_web_0_eq (K : PySem.W.Frag) (D : Ends) (σ : St) (H : Hp) : t_look_web_0 K D σ H = (tIfS (tOr (tNot (tTest (tChain (rI0 fun i j => .bl (decide (i ≤ j))) (rI0 fun i j => .bl (decide (i ≤ j))) (tC (.int 1)) (tVar 1) (tC (.int 60))))) (tOr (tTest (tOp (rI0 fun i j => .bl (decide (j < i))) (tCB (fun xs H Q => ∃ p ys, xs = [.ref p] ∧ (SqL K H p ys ∨ SqT K H p ys) ∧ Q (.int ys.length) H) (tCons (tVar 2) tNil)) (tC (.int 120)))) (tTest (tOp (rI0 fun i j => .bl (decide (i < j))) (tCB rLenD (tCons (tCall spCome [] E0 (tCons (tVar 2) tNil)) tNil)) (tVar 1))))) tNever tNext) D σ H := rfl
def t_look_web_1 (K : PySem.W.Frag) : TS :=
  (tSeq (tAsg (tVar 0) (gTup K 2 (gCons (gName 1) (gCons (gName 2) gNil))))
  (tSeq (tFor (iEnum K (tCons (tVar 2) tNil)) (gTup K 2 (gCons (gName 3) (gCons (gName 4) gNil)))
  (tIfS (tNot (tB (tCall spIsRoad [] E0 (tCons (tVar 4) (tCons (tVar 1) tNil))))) tNever tNext))
  (t_look_web_0 K)))
theorem t_look_web_1_eq (K : PySem.W.Frag) (D : Ends) (σ : St) (H : Hp) : t_look_web_1 K D σ H = (tSeq (tAsg (tVar 0) (gTup K 2 (gCons (gName 1) (gCons (gName 2) gNil))))
  (tSeq (tFor (iEnum K (tCons (tVar 2) tNil)) (gTup K 2 (gCons (gName 3) (gCons (gName 4) gNil)))
  (tIfS (tNot (tB (tCall spIsRoad [] E0 (tCons (tVar 4) (tCons (tVar 1) tNil))))) tNever tNext))
  (t_look_web_0 K))) D σ H := rfl
def t_look_web_2 (K : PySem.W.Frag) : TS :=
  (tIfS (tOr (tNot (tB (tCB (rIsi K) (tCons (tVar 0) (tCons (tC (.ty "tuple")) tNil))))) (tOr (tTest (tOp rNe (tCB (fun xs H Q => ∃ p ys, xs = [.ref p] ∧ (SqL K H p ys ∨ SqT K H p ys) ∧ Q (.int ys.length) H) (tCons (tVar 0) tNil)) (tC (.int 2)))) (tOr (tNot (tB (tCall spWhole [] E0 (tCons (tOp (rIxT K) (tVar 0) (tC (.int 0))) tNil)))) (tNot (tB (tCB (rIsi K) (tCons (tOp (rIxT K) (tVar 0) (tC (.int 1))) (tCons (tC (.ty "list")) tNil)))))))) tNever tNext)
theorem t_look_web_2_eq (K : PySem.W.Frag) (D : Ends) (σ : St) (H : Hp) : t_look_web_2 K D σ H = (tIfS (tOr (tNot (tB (tCB (rIsi K) (tCons (tVar 0) (tCons (tC (.ty "tuple")) tNil))))) (tOr (tTest (tOp rNe (tCB (fun xs H Q => ∃ p ys, xs = [.ref p] ∧ (SqL K H p ys ∨ SqT K H p ys) ∧ Q (.int ys.length) H) (tCons (tVar 0) tNil)) (tC (.int 2)))) (tOr (tNot (tB (tCall spWhole [] E0 (tCons (tOp (rIxT K) (tVar 0) (tC (.int 0))) tNil)))) (tNot (tB (tCB (rIsi K) (tCons (tOp (rIxT K) (tVar 0) (tC (.int 1))) (tCons (tC (.ty "list")) tNil)))))))) tNever tNext) D σ H := rfl
def t_look_web (K : PySem.W.Frag) : TS :=
  (tSeq (tCut (t_look_web_2 K))
  (t_look_web_1 K))
theorem rd_look_web {w rl : Addr} {ts : List Addr} {m : Int} {rs : List Road} (W : WebH H w rl ts m rs) (G : GW m rs) (q : ∀ H', Same H H' → Q .non H') :
    t_look_web K { nx := fun _ H' => Q .non H', rt := Q } (L2.start ["web", "many", "roads", "k", "road"] [.ref w]) H := by
  unfold t_look_web
  have m1 := G.m1
  have m60 := G.m60
  have l120 := G.l120
  simp only [t_look_web_0_eq, t_look_web_1_eq, t_look_web_2_eq, sDPut, tDNewT, tDGet2, rLenD, iEnum, tComp_eq, capS, tChain, rAppend, Option.bind_some, Option.bind_none, Option.join_some, Option.map_some, List.getElem?_cons_zero, List.getElem?_cons_succ, V.str.injEq, V.ty.injEq, tFor_eq, iList, tSeq, tNext, tAsg, gName, gTup, gCons, gNil, tCB, tCons, tNil, tVar, tC, tOp, tTest, tB, tOr, tNot, tIfS, tRet, tTup, tCall, rI0, rNe, rIxT, L2.start, truV_int, truV_bl, scal_int, scal_bl, List.map_cons, List.map_nil, List.length_cons, List.length_nil, List.replicate, List.cons_append, List.nil_append, List.append_nil, Option.some.injEq, exists_eq_left', exists_eq_left, exists_and_left, List.cons.injEq, V.int.injEq, V.ref.injEq, V.bl.injEq, and_true, true_and, List.set_cons_zero, List.set_cons_succ, Nat.reduceAdd, Nat.reduceSub, Int.reduceToNat, Int.reducePow, Int.reduceNeg, Int.reduceMul, Int.reduceAdd, Int.reduceSub, decide_eq_true_eq, Bool.not_eq_true', decide_eq_false_iff_not, exists_const, and_assoc, exists_eq, exists_eq', if_true, if_false, Bool.false_eq_true, Bool.true_eq_false, reduceCtorEq, not_true_eq_false, not_false_eq_true]
  refine ⟨fun σ H' => H' = H ∧ σ = [some (.ref w), none, none, none, none], ?_, ?_⟩
  · simp only [t_look_web_0_eq, t_look_web_1_eq, t_look_web_2_eq, sDPut, tDNewT, tDGet2, rLenD, iEnum, tComp_eq, capS, tChain, rAppend, Option.bind_some, Option.bind_none, Option.join_some, Option.map_some, List.getElem?_cons_zero, List.getElem?_cons_succ, V.str.injEq, V.ty.injEq, tFor_eq, iList, tSeq, tNext, tAsg, gName, gTup, gCons, gNil, tCB, tCons, tNil, tVar, tC, tOp, tTest, tB, tOr, tNot, tIfS, tRet, tTup, tCall, rI0, rNe, rIxT, L2.start, truV_int, truV_bl, scal_int, scal_bl, List.map_cons, List.map_nil, List.length_cons, List.length_nil, List.replicate, List.cons_append, List.nil_append, List.append_nil, Option.some.injEq, exists_eq_left', exists_eq_left, exists_and_left, List.cons.injEq, V.int.injEq, V.ref.injEq, V.bl.injEq, and_true, true_and, List.set_cons_zero, List.set_cons_succ, Nat.reduceAdd, Nat.reduceSub, Int.reduceToNat, Int.reducePow, Int.reduceNeg, Int.reduceMul, Int.reduceAdd, Int.reduceSub, decide_eq_true_eq, Bool.not_eq_true', decide_eq_false_iff_not, exists_const, and_assoc, exists_eq, exists_eq', if_true, if_false, Bool.false_eq_true, Bool.true_eq_false, reduceCtorEq, not_true_eq_false, not_false_eq_true]
    refine isi_tup_tup W.hw ⟨true, rfl, ?_⟩
    refine ite2 (fun z => absurd z (by decide)) (fun _ => ?_)
    refine ⟨_, .inr (SqT.of W.hw), ?_⟩
    refine ite2 (fun z => absurd rfl z) (fun _ => ?_)
    refine ⟨_, SqT.of W.hw, _, rfl, m, rfl, true, rfl, ?_⟩
    refine ite2 (fun z => absurd z (by decide)) (fun _ => ?_)
    refine ⟨_, SqT.of W.hw, _, rfl, isi_lst_lst W.hl ⟨true, rfl, ?_⟩⟩
    exact ite2 (fun z => absurd z (by decide)) (fun _ => rfl)
  · rintro σ H' ⟨e, rfl⟩
    rw [e]
    simp only [t_look_web_0_eq, t_look_web_1_eq, t_look_web_2_eq, sDPut, tDNewT, tDGet2, rLenD, iEnum, tComp_eq, capS, tChain, rAppend, Option.bind_some, Option.bind_none, Option.join_some, Option.map_some, List.getElem?_cons_zero, List.getElem?_cons_succ, V.str.injEq, V.ty.injEq, tFor_eq, iList, tSeq, tNext, tAsg, gName, gTup, gCons, gNil, tCB, tCons, tNil, tVar, tC, tOp, tTest, tB, tOr, tNot, tIfS, tRet, tTup, tCall, rI0, rNe, rIxT, L2.start, truV_int, truV_bl, scal_int, scal_bl, List.map_cons, List.map_nil, List.length_cons, List.length_nil, List.replicate, List.cons_append, List.nil_append, List.append_nil, Option.some.injEq, exists_eq_left', exists_eq_left, exists_and_left, List.cons.injEq, V.int.injEq, V.ref.injEq, V.bl.injEq, and_true, true_and, List.set_cons_zero, List.set_cons_succ, Nat.reduceAdd, Nat.reduceSub, Int.reduceToNat, Int.reducePow, Int.reduceNeg, Int.reduceMul, Int.reduceAdd, Int.reduceSub, decide_eq_true_eq, Bool.not_eq_true', decide_eq_false_iff_not, exists_const, and_assoc, exists_eq, exists_eq', if_true, if_false, Bool.false_eq_true, Bool.true_eq_false, reduceCtorEq, not_true_eq_false, not_false_eq_true]
    refine ⟨_, SqT.of W.hw, rfl, _, _, rfl, _, _, rfl, rfl, ?_⟩
    refine ⟨_, rfl, ⟨_, SqL.of W.hl⟩, ?_⟩
    refine for_enumF (K := K) (xs := ts.map V.ref) (fun i σ H' => Same H H' ∧ ∃ x y, σ = [some (.ref w), some (.int m), some (.ref rl), x, y]) ⟨.refl _, _, _, rfl⟩ ?_ ?_ ?_
    · rintro i σ H' _ ⟨s, _⟩
      exact SqL.of (s _ _ W.hl)
    · rintro i t u σ H1 hx ⟨s, x, y, rfl⟩ hu
      obtain ⟨t, et, rfl⟩ := map_at hx
      obtain ⟨r, er, hr0⟩ := W.ht.at et
      simp only [t_look_web_0_eq, t_look_web_1_eq, t_look_web_2_eq, sDPut, tDNewT, tDGet2, rLenD, iEnum, tComp_eq, capS, tChain, rAppend, Option.bind_some, Option.bind_none, Option.join_some, Option.map_some, List.getElem?_cons_zero, List.getElem?_cons_succ, V.str.injEq, V.ty.injEq, tFor_eq, iList, tSeq, tNext, tAsg, gName, gTup, gCons, gNil, tCB, tCons, tNil, tVar, tC, tOp, tTest, tB, tOr, tNot, tIfS, tRet, tTup, tCall, rI0, rNe, rIxT, L2.start, truV_int, truV_bl, scal_int, scal_bl, List.map_cons, List.map_nil, List.length_cons, List.length_nil, List.replicate, List.cons_append, List.nil_append, List.append_nil, Option.some.injEq, exists_eq_left', exists_eq_left, exists_and_left, List.cons.injEq, V.int.injEq, V.ref.injEq, V.bl.injEq, and_true, true_and, List.set_cons_zero, List.set_cons_succ, Nat.reduceAdd, Nat.reduceSub, Int.reduceToNat, Int.reducePow, Int.reduceNeg, Int.reduceMul, Int.reduceAdd, Int.reduceSub, decide_eq_true_eq, Bool.not_eq_true', decide_eq_false_iff_not, exists_const, and_assoc, exists_eq, exists_eq', if_true, if_false, Bool.false_eq_true, Bool.true_eq_false, reduceCtorEq, not_true_eq_false, not_false_eq_true]
      refine ⟨_, SqT.of upd_same, rfl, _, _, rfl, _, _, rfl, rfl, ?_⟩
      have s2 := s.add hu (o := .tup [.int (i : Int), .ref t])
      refine ⟨t, r, m, rfl, s2 _ _ hr0, ?_⟩
      rw [decide_eq_true (G.gr r (mem_at er))]
      exact ⟨true, rfl, ite2 (fun z => absurd z (by decide)) (fun _ => s2)⟩
    · rintro σ H1 ⟨s, x, y, rfl⟩
      simp only [t_look_web_0_eq, t_look_web_1_eq, t_look_web_2_eq, sDPut, tDNewT, tDGet2, rLenD, iEnum, tComp_eq, capS, tChain, rAppend, Option.bind_some, Option.bind_none, Option.join_some, Option.map_some, List.getElem?_cons_zero, List.getElem?_cons_succ, V.str.injEq, V.ty.injEq, tFor_eq, iList, tSeq, tNext, tAsg, gName, gTup, gCons, gNil, tCB, tCons, tNil, tVar, tC, tOp, tTest, tB, tOr, tNot, tIfS, tRet, tTup, tCall, rI0, rNe, rIxT, L2.start, truV_int, truV_bl, scal_int, scal_bl, List.map_cons, List.map_nil, List.length_cons, List.length_nil, List.replicate, List.cons_append, List.nil_append, List.append_nil, Option.some.injEq, exists_eq_left', exists_eq_left, exists_and_left, List.cons.injEq, V.int.injEq, V.ref.injEq, V.bl.injEq, and_true, true_and, List.set_cons_zero, List.set_cons_succ, Nat.reduceAdd, Nat.reduceSub, Int.reduceToNat, Int.reducePow, Int.reduceNeg, Int.reduceMul, Int.reduceAdd, Int.reduceSub, decide_eq_true_eq, Bool.not_eq_true', decide_eq_false_iff_not, exists_const, and_assoc, exists_eq, exists_eq', if_true, if_false, Bool.false_eq_true, Bool.true_eq_false, reduceCtorEq, not_true_eq_false, not_false_eq_true]
      refine ite2 (fun z => ?_) (fun z => absurd (show (1 : Int) ≤ m from m1) z)
      refine ite2 (fun z => absurd (show m ≤ 60 from m60) z) (fun z => ?_)
      refine ⟨_, .inl (SqL.of (s _ _ W.hl)), ?_⟩
      rw [List.length_map, W.ht.1]
      refine ite2 (fun z => absurd z (by omega)) (fun z => ?_)
      refine ⟨rl, ts, rs, m, rfl, s _ _ W.hl, W.ht.same s, m1, m60, G.gr, fun d kvs H2 s2 h2 hc => ?_⟩
      refine ⟨_, rfl, kvs, h2, ?_⟩
      have := hc.mpr G.conn
      exact ite2 (fun z => absurd z (by omega)) (fun z => q _ (s.trans s2))
theorem sc_look_web : FnScope ["web", "many", "roads", "k", "road"] ["web"] (defScope s_look_web) := ⟨rfl, rfl, rfl, by decide +kernel, rfl, by decide +kernel, by decide +kernel⟩
theorem ok_look_web (T : Txt K mg a) : FnOk P w K mg base CX0 4 a.f_look_web a.d_look_web ["web"] spLookWeb := by
  have G_is_road := ok_is_road (P := P) (w := w) (base := base) T
  have G_is_whole := ok_is_whole (P := P) (w := w) (base := base) T
  have G_places_come_to := ok_places_come_to (P := P) (w := w) (base := base) T
  refine T.F_look_web.ok sc_look_web (fun vs H Q E h => ?_) (fun cdv A outer s H vs Q E hr h => ?_)
  · obtain ⟨w', rl, ts, m, rs, rfl, W, G, q⟩ := h
    rfl
  obtain ⟨w', rl, ts, m, rs, rfl, W, G, q⟩ := h
  exact ⟨t_look_web K, (pss_cons (ps_cut (ps_if (PW.pt (pw_or (pt_not (pt_val (pe_callB call_isinst rfl T.z_isinstance PyProof.Rows.boot_isinstance (pa_cons (pv 0) (pa_cons (pe_bltn rfl T.z_tuple boot_tuple rfl) pa_nil))))) (pw_or (pt_cmpR op_ne (pe_callB call_len_seq rfl T.z_len PySem.boot_len (pa_cons (pv 0) pa_nil)) pe_int (nomark _)) (pw_or (pt_not (pt_val (pe_call G_is_whole (hr.mono (by decide)) rfl T.m_is_whole T.F_is_whole.kp T.b_is_whole .nil pass0 (pa_cons (pe_ix ix_tup (pv 0) pe_int (fun _ _ => rfl)) pa_nil)))) (pw_or1 (pt_not (pt_val (pe_callB call_isinst rfl T.z_isinstance PyProof.Rows.boot_isinstance (pa_cons (pe_ix ix_tup (pv 0) pe_int (fun _ _ => rfl)) (pa_cons (pe_bltn rfl T.z_list boot_list rfl) pa_nil)))))))))) (pss_one ps_never) pss_nil))
  (pss_cons (ps_asg (pv 0) (pg_tup rfl (pgs_cons (pg_name (i := 1) sc_look_web.nd rfl (Or.inl rfl)) (pgs_cons (pg_name (i := 2) sc_look_web.nd rfl (Or.inl rfl)) pgs_nil))))
  (pss_cons (ps_for PassesOwn.never rfl (pi_enum rfl T.z_enumerate (pa_cons (pv 2) pa_nil)) (pg_tup rfl (pgs_cons (pg_name (i := 3) sc_look_web.nd rfl (Or.inl rfl)) (pgs_cons (pg_name (i := 4) sc_look_web.nd rfl (Or.inl rfl)) pgs_nil)))
  (pss_one (ps_if (pt_not (pt_val (pe_call G_is_road (hr.mono (by decide)) rfl T.m_is_road T.F_is_road.kp T.b_is_road .nil pass0 (pa_cons (pv 4) (pa_cons (pv 1) pa_nil))))) (pss_one ps_never) pss_nil)))
  (pss_one (ps_if (PW.pt (pw_or (pt_not (pt_chain op_le op_le pe_int (pv 1) (pe_glob rfl T.m_MOST_PLACES ⟨_, rfl⟩))) (pw_or (pt_cmpR op_gt (pe_callB call_len_seq rfl T.z_len PySem.boot_len (pa_cons (pv 2) pa_nil)) (pe_glob rfl T.m_MOST_ROADS ⟨_, rfl⟩) (nomark _)) (pw_or1 (pt_cmpR op_lt (pe_callB call_lenD rfl T.z_len PySem.boot_len (pa_cons (pe_call G_places_come_to (hr.mono (by decide)) rfl T.m_places_come_to T.F_places_come_to.kp T.b_places_come_to .nil pass0 (pa_cons (pv 2) pa_nil)) pa_nil)) (pv 1) (nomark _)))))) (pss_one ps_never) pss_nil))))),
    rd_look_web W G q⟩

theorem getD_map {o : Option Int} {l : Int} : (o.map V.int).getD (.int l) = .int (o.getD l) := by cases o <;> rfl
theorem Lens.put {kvs : List (List Key × V)} {rs rs' : List Road} {r : Road} (h : Lens kvs rs) (e : sh rs' = shs (sh rs) r) (el : rs'.length = rs.length + 1) : Lens (putK (putK kvs [.inl r.1, .inl r.2.1] (.int (min ((sh rs r.1 r.2.1).getD r.2.2) r.2.2))) [.inl r.2.1, .inl r.1] (.int (min ((sh rs r.1 r.2.1).getD r.2.2) r.2.2))) rs' := by
  have z : ∀ x y a b : Int, (([.inl x, .inl y] : List Key) = [.inl a, .inl b]) ↔ x = a ∧ y = b := fun x y a b => by
    constructor
    · intro h
      simp only [List.cons.injEq, Sum.inl.injEq, and_true] at h
      exact h
    · rintro ⟨rfl, rfl⟩
      rfl
  refine ⟨fun x y => ?_, ?_⟩
  · rw [valV_put, valV_put, h.val, e]
    unfold shs
    simp only [z]
    split
    · rfl
    · split
      · rfl
      · rfl
  · have h1 := length_putK kvs [.inl r.1, .inl r.2.1] (.int (min ((sh rs r.1 r.2.1).getD r.2.2) r.2.2))
    have h2 := length_putK (putK kvs [.inl r.1, .inl r.2.1] (.int (min ((sh rs r.1 r.2.1).getD r.2.2) r.2.2))) [.inl r.2.1, .inl r.1] (.int (min ((sh rs r.1 r.2.1).getD r.2.2) r.2.2))
    have := h.len
    omega
def t_shortest_roads_0 : TS :=
  (tSeq (tAsg (tCB (fun xs H Q => ∃ i j, xs = [.int i, .int j] ∧ Q (.int (if j < i then j else i)) H) (tCons (tVar 4) (tCons (tDGet2 (tVar 1) (tTup (tCons (tVar 2) (tCons (tVar 3) tNil))) (tVar 4)) tNil))) (gName 5))
  (tSeq (sDPut (tVar 1) (tTup (tCons (tVar 2) (tCons (tVar 3) tNil))) (tVar 5))
  (sDPut (tVar 1) (tTup (tCons (tVar 3) (tCons (tVar 2) tNil))) (tVar 5))))
theorem t_shortest_roads_0_eq (D : Ends) (σ : St) (H : Hp) : t_shortest_roads_0 D σ H = (tSeq (tAsg (tCB (fun xs H Q => ∃ i j, xs = [.int i, .int j] ∧ Q (.int (if j < i then j else i)) H) (tCons (tVar 4) (tCons (tDGet2 (tVar 1) (tTup (tCons (tVar 2) (tCons (tVar 3) tNil))) (tVar 4)) tNil))) (gName 5))
  (tSeq (sDPut (tVar 1) (tTup (tCons (tVar 2) (tCons (tVar 3) tNil))) (tVar 5))
  (sDPut (tVar 1) (tTup (tCons (tVar 3) (tCons (tVar 2) tNil))) (tVar 5)))) D σ H := rfl
def t_shortest_roads (K : PySem.W.Frag) : TS :=
  (tSeq (tAsg tDNewT (gName 1))
  (tSeq (tFor (iList K (tOp (rIxT K) (tVar 0) (tC (.int 1)))) (gTup K 3 (gCons (gName 2) (gCons (gName 3) (gCons (gName 4) gNil))))
  (t_shortest_roads_0))
  (tRet (tVar 1))))
theorem rd_shortest_roads {w rl : Addr} {ts : List Addr} {m : Int} {rs : List Road} (W : WebH H w rl ts m rs) (l120 : rs.length ≤ 120)
    (q : ∀ (d : Addr) (kvs : List (List Key × V)) (H' : Hp), Same H H' → H' d = some (.dT kvs) → Lens kvs rs → H d = none → Q (.ref d) H') :
    t_shortest_roads K { nx := fun _ H' => Q .non H', rt := Q } (L2.start ["web", "lengths", "a", "b", "length", "least"] [.ref w]) H := by
  unfold t_shortest_roads
  simp only [t_shortest_roads_0_eq, rIn, sDPut, tDNewT, tDGet2, tComp_eq, capS, rAppend, Option.bind_some, Option.bind_none, Option.join_some, Option.map_some, List.getElem?_cons_zero, List.getElem?_cons_succ, V.str.injEq, V.ty.injEq, tFor_eq, iList, tSeq, tNext, tAsg, gName, gTup, gCons, gNil, tCB, tCons, tNil, tVar, tC, tOp, tTest, tIfS, tRet, tTup, rIxT, L2.start, truV_int, truV_bl, scal_int, scal_bl, List.map_cons, List.map_nil, List.length_cons, List.length_nil, List.replicate, List.cons_append, List.nil_append, List.append_nil, Option.some.injEq, exists_eq_left', exists_eq_left, exists_and_left, List.cons.injEq, V.int.injEq, V.ref.injEq, V.bl.injEq, and_true, true_and, List.set_cons_zero, List.set_cons_succ, Nat.reduceAdd, Nat.reduceSub, Int.reduceToNat, Int.reducePow, Int.reduceNeg, Int.reduceMul, Int.reduceAdd, Int.reduceSub, decide_eq_true_eq, Bool.not_eq_true', decide_eq_false_iff_not, exists_const, and_assoc, exists_eq, exists_eq', if_true, if_false, Bool.false_eq_true, Bool.true_eq_false, reduceCtorEq, not_true_eq_false, not_false_eq_true]
  intro d hd
  have s0 := same_new hd (.dT [])
  refine ⟨_, SqT.of (s0 _ _ W.hw), _, rfl, _, rfl, ⟨_, SqL.of (s0 _ _ W.hl)⟩, ?_⟩
  refine for_listF (K := K) (xs := ts.map V.ref) (fun i σ H' => Same H H' ∧ ∃ (kvs : List (List Key × V)), H' d = some (.dT kvs) ∧ Lens kvs (rs.take i) ∧ ∃ x1 x2 x3 x4, σ = [some (.ref w), some (.ref d), x1, x2, x3, x4]) ⟨s0, [], upd_same, ⟨fun _ _ => rfl, Nat.zero_le _⟩, _, _, _, _, rfl⟩ ?_ ?_ ?_
  · rintro i σ H' _ ⟨s, _⟩
    exact SqL.of (s _ _ W.hl)
  · rintro i t σ H1 hx ⟨s1, kvs, h1, hL, x1, x2, x3, x4, rfl⟩
    obtain ⟨t, et, rfl⟩ := map_at hx
    obtain ⟨r, er, hr0⟩ := W.ht.at et
    have li := (List.getElem?_eq_some_iff.mp er).1
    have hlen := hL.len
    rw [List.length_take] at hlen
    have big : (1000 : Nat) < sizeLine := by decide
    simp only [t_shortest_roads_0_eq, rIn, sDPut, tDNewT, tDGet2, tComp_eq, capS, rAppend, Option.bind_some, Option.bind_none, Option.join_some, Option.map_some, List.getElem?_cons_zero, List.getElem?_cons_succ, V.str.injEq, V.ty.injEq, tFor_eq, iList, tSeq, tNext, tAsg, gName, gTup, gCons, gNil, tCB, tCons, tNil, tVar, tC, tOp, tTest, tIfS, tRet, tTup, rIxT, L2.start, truV_int, truV_bl, scal_int, scal_bl, List.map_cons, List.map_nil, List.length_cons, List.length_nil, List.replicate, List.cons_append, List.nil_append, List.append_nil, Option.some.injEq, exists_eq_left', exists_eq_left, exists_and_left, List.cons.injEq, V.int.injEq, V.ref.injEq, V.bl.injEq, and_true, true_and, List.set_cons_zero, List.set_cons_succ, Nat.reduceAdd, Nat.reduceSub, Int.reduceToNat, Int.reducePow, Int.reduceNeg, Int.reduceMul, Int.reduceAdd, Int.reduceSub, decide_eq_true_eq, Bool.not_eq_true', decide_eq_false_iff_not, exists_const, and_assoc, exists_eq, exists_eq', if_true, if_false, Bool.false_eq_true, Bool.true_eq_false, reduceCtorEq, not_true_eq_false, not_false_eq_true]
    refine ⟨_, SqT.of (s1 _ _ hr0), rfl, _, _, rfl, _, _, rfl, _, _, rfl, rfl, ?_⟩
    refine ⟨.inr ⟨kvs, .inl h1⟩, by decide, fun u hu => ?_⟩
    have s2 := same_new hu (.tup [.int r.1, .int r.2.1])
    have hu2 : (L2.upd H1 u (.tup [.int r.1, .int r.2.1])) u = some (.tup (([.inl r.1, .inl r.2.1] : List Key).map kV)) := upd_same
    generalize L2.upd H1 u (.tup [.int r.1, .int r.2.1]) = H2 at s2 hu2 ⊢
    refine ⟨_, DGet.t (s2 _ _ h1) hu2, _, rfl, (sh (rs.take i) r.1 r.2.1).getD r.2.2, by rw [hL.val, getD_map], by decide, fun u2 hu2 => ?_⟩
    have ev : (if (sh (rs.take i) r.1 r.2.1).getD r.2.2 < r.2.2 then (sh (rs.take i) r.1 r.2.1).getD r.2.2 else r.2.2) = min ((sh (rs.take i) r.1 r.2.1).getD r.2.2) r.2.2 := by
      split <;> omega
    rw [ev]
    have LL := hL.put (sh_take er) (by rw [List.length_take, List.length_take]; omega)
    generalize min ((sh (rs.take i) r.1 r.2.1).getD r.2.2) r.2.2 = v at LL ⊢
    have s3 := s2.add hu2 (o := .tup [.int r.1, .int r.2.1])
    have hu3 : (L2.upd H2 u2 (.tup [.int r.1, .int r.2.1])) u2 = some (.tup (([.inl r.1, .inl r.2.1] : List Key).map kV)) := upd_same
    generalize L2.upd H2 u2 (.tup [.int r.1, .int r.2.1]) = H3 at s3 hu3 ⊢
    refine ⟨_, DPut.t (s3 _ _ h1) hu3 (by omega), by decide, fun u4 hu4 => ?_⟩
    refine ⟨_, DPut.t (k := [.inl r.2.1, .inl r.1]) (by rw [upd_ne (ne_of_none upd_same hu4)]; exact upd_same) upd_same (by have := length_putK kvs [.inl r.1, .inl r.2.1] (.int v); omega), ?_, _, upd_same, LL⟩
    exact (((s1.trans s3).put hd).add hu4).put hd
  · rintro σ H1 ⟨s1, kvs, h1, hL, x1, x2, x3, x4, rfl⟩
    simp only [t_shortest_roads_0_eq, rIn, sDPut, tDNewT, tDGet2, tComp_eq, capS, rAppend, Option.bind_some, Option.bind_none, Option.join_some, Option.map_some, List.getElem?_cons_zero, List.getElem?_cons_succ, V.str.injEq, V.ty.injEq, tFor_eq, iList, tSeq, tNext, tAsg, gName, gTup, gCons, gNil, tCB, tCons, tNil, tVar, tC, tOp, tTest, tIfS, tRet, tTup, rIxT, L2.start, truV_int, truV_bl, scal_int, scal_bl, List.map_cons, List.map_nil, List.length_cons, List.length_nil, List.replicate, List.cons_append, List.nil_append, List.append_nil, Option.some.injEq, exists_eq_left', exists_eq_left, exists_and_left, List.cons.injEq, V.int.injEq, V.ref.injEq, V.bl.injEq, and_true, true_and, List.set_cons_zero, List.set_cons_succ, Nat.reduceAdd, Nat.reduceSub, Int.reduceToNat, Int.reducePow, Int.reduceNeg, Int.reduceMul, Int.reduceAdd, Int.reduceSub, decide_eq_true_eq, Bool.not_eq_true', decide_eq_false_iff_not, exists_const, and_assoc, exists_eq, exists_eq', if_true, if_false, Bool.false_eq_true, Bool.true_eq_false, reduceCtorEq, not_true_eq_false, not_false_eq_true]
    rw [List.take_of_length_le (by rw [List.length_map, W.ht.1]; exact Nat.le_refl _)] at hL
    exact q d kvs H1 s1 h1 hL hd
theorem sc_shortest_roads : FnScope ["web", "lengths", "a", "b", "length", "least"] ["web"] (defScope s_shortest_roads) := ⟨rfl, rfl, rfl, by decide +kernel, rfl, by decide +kernel, by decide +kernel⟩
theorem ok_shortest_roads (T : Txt K mg a) : FnOk P w K mg base CX0 1 a.f_shortest_roads a.d_shortest_roads ["web"] spShort := by
  refine T.F_shortest_roads.ok sc_shortest_roads (fun vs H Q E h => ?_) (fun cdv A outer s H vs Q E hr h => ?_)
  · obtain ⟨w', rl, ts, m, rs, rfl, W, l120, q⟩ := h
    rfl
  obtain ⟨w', rl, ts, m, rs, rfl, W, l120, q⟩ := h
  exact ⟨t_shortest_roads K, (pss_cons (ps_set (i := 1) sc_shortest_roads.nd rfl (Or.inl rfl) pe_dnewT)
  (pss_cons (ps_for PassesOwn.never rfl (pi_list (pe_ix ix_tup (pv 0) pe_int (fun _ _ => rfl))) (pg_tup rfl (pgs_cons (pg_name (i := 2) sc_shortest_roads.nd rfl (Or.inl rfl)) (pgs_cons (pg_name (i := 3) sc_shortest_roads.nd rfl (Or.inl rfl)) (pgs_cons (pg_name (i := 4) sc_shortest_roads.nd rfl (Or.inl rfl)) pgs_nil))))
  (pss_cons (ps_set (i := 5) sc_shortest_roads.nd rfl (Or.inl rfl) (pe_callB (call_min2 rfl) rfl T.z_min PyProof.Rows.boot_min (pa_cons (pv 4) (pa_cons (pe_dget2 (hu_of hr) (pv 1) (pe_tup (pa_cons (pv 2) (pa_cons (pv 3) pa_nil))) (pv 4) ⟨rfl, rfl, rfl, rfl⟩) pa_nil))))
  (pss_cons (ps_dput (hu_of hr) (pv 1) (pe_tup (pa_cons (pv 2) (pa_cons (pv 3) pa_nil))) (pv 5) rfl)
  (pss_one (ps_dput (hu_of hr) (pv 1) (pe_tup (pa_cons (pv 3) (pa_cons (pv 2) pa_nil))) (pv 5) rfl)))))
  (pss_one (ps_ret (pv 1))))),
    rd_shortest_roads W l120 q⟩

/-! ### what a plan pays for each place -/
abbrev prv (r : Int × Int) : List V := [.int r.1, .int r.2]
abbrev Ct := Int → Option Int
def ct0 : Ct := fun x => if x = 0 then some 0 else none
/-- one step to b: what is paid in all, and for each place -/
def stC (f : Int → Int → Option Int) (s : Int × Ct) (a b : Int) : Int × Ct :=
  (s.1 + (f a b).getD 0, fun x => if x = b ∧ s.2 b = none then some (s.1 + (f a b).getD 0) else s.2 x)
def spC (f : Int → Int → Option Int) (ps : List (Int × Int)) : Int × Ct := ps.foldl (fun s p => stC f s p.1 p.2) (0, ct0)
theorem spC_take {f : Int → Int → Option Int} {ps : List (Int × Int)} {i : Nat} {p : Int × Int} (e : ps[i]? = some p) : spC f (ps.take (i + 1)) = stC f (spC f (ps.take i)) p.1 p.2 := by
  unfold spC
  rw [List.take_add_one, e, List.foldl_append]
  rfl
/-- a whole spread -/
structure Spr (f : Int → Int → Option Int) (m : Int) (ps : List (Int × Int)) : Prop where
  ok : ∀ (i : Nat) p, ps[i]? = some p → (spC f (ps.take i)).2 p.1 ≠ none ∧ (spC f (ps.take i)).2 p.2 = none ∧ f p.1 p.2 ≠ none
  all : ∀ x, 0 ≤ x → x < m → (spC f ps).2 x ≠ none
  len : ps.length ≤ 60
/-- a walk behind place 0: the steps as pairs -/
def pairsW : Int → List Int → List (Int × Int)
  | _, [] => []
  | a, b :: r => (a, b) :: pairsW b r
structure Wlk (f : Int → Int → Option Int) (m : Int) (ws : List Int) : Prop where
  first : ws[0]? = some 0
  ok : ∀ (i : Nat) a b, ws[i]? = some a → ws[i + 1]? = some b → f a b ≠ none
  all : ∀ x, 0 ≤ x → x < m → x ∈ ws
  len : ws.length ≤ 10000
/-- the costs of a walk's first steps -/
def wkC (f : Int → Int → Option Int) (ws : List Int) (n : Nat) : Int × Ct := (List.range n).foldl (fun s i => stC f s (ws.getD i 0) (ws.getD (i + 1) 0)) (0, ct0)
theorem wkC_succ (f : Int → Int → Option Int) (ws : List Int) (n : Nat) : wkC f ws (n + 1) = stC f (wkC f ws n) (ws.getD n 0) (ws.getD (n + 1) 0) := by
  unfold wkC
  rw [List.range_succ, List.foldl_append]
  rfl
theorem stC_dom {f : Int → Int → Option Int} {s : Int × Ct} {a b x : Int} : (stC f s a b).2 x ≠ none ↔ x = b ∨ s.2 x ≠ none := by
  unfold stC
  simp only
  by_cases c : x = b ∧ s.2 b = none
  · rw [if_pos c]
    exact ⟨fun _ => .inl c.1, fun _ z => nomatch z⟩
  · rw [if_neg c]
    constructor
    · exact .inr
    · rintro (rfl | h)
      · exact fun z => c ⟨rfl, z⟩
      · exact h
theorem wkC_dom {f : Int → Int → Option Int} {ws : List Int} (h0 : ws[0]? = some 0) : ∀ (n : Nat), n < ws.length → ∀ x, (wkC f ws n).2 x ≠ none ↔ ∃ j, j ≤ n ∧ ws[j]? = some x
  | 0, hn, x => by
    show ct0 x ≠ none ↔ _
    unfold ct0
    constructor
    · intro h
      by_cases c : x = 0
      · subst c
        exact ⟨0, Nat.le_refl _, h0⟩
      · rw [if_neg c] at h
        exact absurd rfl h
    · rintro ⟨j, hj, e⟩
      have : j = 0 := by omega
      subst this
      rw [h0] at e
      cases e
      simp
  | n + 1, hn, x => by
    rw [wkC_succ, stC_dom, wkC_dom h0 n (by omega) x]
    have e1 : ws[n + 1]? = some (ws.getD (n + 1) 0) := by
      rw [List.getD_eq_getElem?_getD, List.getElem?_eq_getElem hn]
      rfl
    constructor
    · rintro (rfl | ⟨j, hj, e⟩)
      · exact ⟨n + 1, Nat.le_refl _, e1⟩
      · exact ⟨j, by omega, e⟩
    · rintro ⟨j, hj, e⟩
      by_cases c : j = n + 1
      · subst c
        rw [e1] at e
        cases e
        exact .inl rfl
      · exact .inr ⟨j, by omega, e⟩
/-- a dict of costs -/
structure Cd (m : Int) (kvs : List (Key × V)) (c : Ct) : Prop where
  val : ∀ x : Int, valV kvs (.inl x) = (c x).map V.int
  nd : (keysOf kvs).Nodup
  inR : ∀ k ∈ keysOf kvs, ∃ x : Int, k = .inl x ∧ 0 ≤ x ∧ x < m
theorem Cd.zero {m : Int} (m1 : 1 ≤ m) : Cd m [(.inl 0, .int 0)] ct0 := by
  refine ⟨fun x => ?_, by decide, fun k hk => ?_⟩
  · unfold ct0
    by_cases c : x = 0
    · subst c
      rfl
    · rw [if_neg c]
      exact valV_neg (p := (Sum.inl 0, V.int 0)) fun z => c (Sum.inl.inj z).symm
  · have : k = .inl 0 := by simpa [keysOf] using hk
    exact ⟨0, this, by decide, by omega⟩
theorem Cd.put {m : Int} {kvs : List (Key × V)} {f : Int → Int → Option Int} {s : Int × Ct} {a b : Int} (h : Cd m kvs s.2) (b0 : 0 ≤ b) (b1 : b < m) (hn : s.2 b = none) : Cd m (putK kvs (.inl b) (.int (stC f s a b).1)) (stC f s a b).2 := by
  have hv : valV kvs (.inl b) = none := by rw [h.val, hn]; rfl
  refine ⟨fun x => ?_, ?_, ?_⟩
  · rw [valV_put, h.val]
    unfold stC
    simp only
    by_cases c : x = b
    · subst c
      rw [if_pos rfl, if_pos ⟨rfl, hn⟩]
      rfl
    · rw [if_neg fun z => c (Sum.inl.inj z), if_neg fun z => c z.1]
  · rw [keys_put, if_pos hv]
    refine List.nodup_append.mpr ⟨h.nd, by simp, fun a ha b' hb e => ?_⟩
    have : b' = .inl b := by simpa using hb
    subst this
    subst e
    exact (val_mem ..).mpr ha hv
  · rw [keys_put, if_pos hv]
    intro k hk
    rcases List.mem_append.mp hk with z | z
    · exact h.inR k z
    · exact ⟨b, by simpa using z, b0, b1⟩
theorem stC_keep {f : Int → Int → Option Int} {s : Int × Ct} {a b : Int} (h : s.2 b ≠ none) : (stC f s a b).2 = s.2 := by
  funext x
  unfold stC
  simp only
  rw [if_neg fun z => h z.2]
theorem Cd.le {m : Int} {kvs : List (Key × V)} {c : Ct} (h : Cd m kvs c) (m0 : 0 ≤ m) : (kvs.length : Int) ≤ m := by
  have := nodup_len (keysOf kvs) ((List.range m.toNat).map fun k : Nat => (Sum.inl (k : Int) : Key)) h.nd fun k hk => by
    obtain ⟨x, rfl, x0, x1⟩ := h.inR k hk
    exact List.mem_map.mpr ⟨x.toNat, List.mem_range.mpr (by omega), by rw [Int.toNat_of_nonneg x0]⟩
  rw [keys_len, List.length_map, List.length_range] at this
  omega
theorem Cd.ge {m : Int} {kvs : List (Key × V)} {c : Ct} (h : Cd m kvs c) (hx : ∀ x, 0 ≤ x → x < m → c x ≠ none) : m ≤ (kvs.length : Int) := by
  have := nodup_len ((List.range m.toNat).map fun k : Nat => (Sum.inl (k : Int) : Key)) (keysOf kvs) ?_ fun k hk => ?_
  · rw [keys_len, List.length_map, List.length_range] at this
    omega
  · refine List.nodup_iff_pairwise_ne.mpr (List.pairwise_map.mpr ((List.nodup_iff_pairwise_ne.mp List.nodup_range).imp fun h e => h ?_))
    have := Sum.inl.inj e
    omega
  · obtain ⟨x, hx1, rfl⟩ := List.mem_map.mp hk
    have := List.mem_range.mp hx1
    refine (val_mem ..).mp ?_
    rw [h.val]
    intro z
    exact hx x (by omega) (by omega) (Option.map_eq_none_iff.mp z)
/-- the costs, place by place -/
def costL (m : Int) (c : Ct) : List Int := (List.range m.toNat).map fun k : Nat => (c (k : Int)).getD 0
/-! ### what is known of the shortest lengths -/
theorem sh_mem {m : Int} : ∀ (rs : List Road), (∀ r ∈ rs, GR m r) → ∀ x y l, sh rs x y = some l → 0 ≤ x ∧ x < m ∧ 0 ≤ y ∧ y < m ∧ x ≠ y ∧ 1 ≤ l ∧ l ≤ 1000000 := by
  have z : ∀ (rs : List Road) (f : Int → Int → Option Int), (∀ r ∈ rs, GR m r) → (∀ x y l, f x y = some l → 0 ≤ x ∧ x < m ∧ 0 ≤ y ∧ y < m ∧ x ≠ y ∧ 1 ≤ l ∧ l ≤ 1000000) → ∀ x y l, rs.foldl shs f x y = some l → 0 ≤ x ∧ x < m ∧ 0 ≤ y ∧ y < m ∧ x ≠ y ∧ 1 ≤ l ∧ l ≤ 1000000 := by
    intro rs
    induction rs with
    | nil => intro f _ h; exact h
    | cons r rs ih =>
      intro f g h
      refine ih _ (fun r' h' => g r' (by simp [h'])) fun x y l e => ?_
      obtain ⟨g1, g2, g3, g4, g5, g6, g7⟩ := g r (by simp)
      have hv : 1 ≤ min ((f r.1 r.2.1).getD r.2.2) r.2.2 ∧ min ((f r.1 r.2.1).getD r.2.2) r.2.2 ≤ 1000000 := by
        cases q : f r.1 r.2.1 with
        | none => simp only [Option.getD_none]; omega
        | some v =>
          have := h _ _ _ q
          simp only [Option.getD_some]
          omega
      unfold shs at e
      split at e
      · rename_i c
        cases e
        obtain ⟨rfl, rfl⟩ := c
        exact ⟨g3, g4, g1, g2, g5.symm, hv⟩
      · split at e
        · rename_i c
          cases e
          obtain ⟨rfl, rfl⟩ := c
          exact ⟨g1, g2, g3, g4, g5, hv⟩
        · exact h x y l e
  exact fun rs g => z rs _ g fun _ _ _ e => nomatch e
theorem sh_road {rs : List Road} {r : Road} (h : r ∈ rs) : sh rs r.1 r.2.1 ≠ none := by
  have keep : ∀ (rs : List Road) (f : Int → Int → Option Int) (x y : Int), f x y ≠ none → rs.foldl shs f x y ≠ none := by
    intro rs
    induction rs with
    | nil => intro f x y h; exact h
    | cons r rs ih =>
      intro f x y h
      refine ih _ x y ?_
      unfold shs
      split
      · exact fun z => nomatch z
      · split
        · exact fun z => nomatch z
        · exact h
  obtain ⟨a, b, rfl⟩ := List.append_of_mem h
  unfold sh
  rw [List.foldl_append, List.foldl_cons]
  refine keep b _ _ _ ?_
  unfold shs
  split
  · exact fun z => nomatch z
  · rw [if_pos ⟨rfl, rfl⟩]
    exact fun z => nomatch z
def spLookKind : Sp := fun vs H Q _ => ∃ kd : Str, vs = [.str kd] ∧ (kd = "walk" ∨ kd = "spread") ∧ Q .non H
def t_look_kind (K : PySem.W.Frag) (a : Ad) : TS :=
  (tIfS (tTest (tOp (rIn K true) (tVar 0) (tC (.ref a.t_KINDS)))) tNever tNext)
theorem rd_look_kind {kd : Str} (hK : KTup K a.t_KINDS [.str "walk", .str "spread"]) (h : kd = "walk" ∨ kd = "spread") (q : Q .non H) : t_look_kind K a { nx := fun _ H' => Q .non H', rt := Q } (L2.start ["kind"] [.str kd]) H := by
  unfold t_look_kind
  simp only [rIn, tDIn, tDNotIn, tComp_eq, capS, rAppend, Option.bind_some, Option.bind_none, Option.join_some, Option.map_some, List.getElem?_cons_zero, List.getElem?_cons_succ, V.str.injEq, V.ty.injEq, tFor_eq, tSeq, tNext, tCB, tCons, tNil, tVar, tC, tOp, tTest, tB, tOr, tNot, tAndV, tIfS, tRet, tCall, rNe, rIxT, L2.start, truV_int, truV_bl, scal_int, scal_bl, List.map_cons, List.map_nil, List.length_cons, List.length_nil, List.replicate, List.cons_append, List.nil_append, List.append_nil, Option.some.injEq, exists_eq_left', exists_eq_left, exists_and_left, List.cons.injEq, V.int.injEq, V.ref.injEq, V.bl.injEq, and_true, true_and, List.set_cons_zero, List.set_cons_succ, Nat.reduceAdd, Nat.reduceSub, Int.reduceToNat, Int.reducePow, Int.reduceNeg, Int.reduceMul, Int.reduceAdd, Int.reduceSub, decide_eq_true_eq, Bool.not_eq_true', decide_eq_false_iff_not, exists_const, and_assoc, exists_eq, exists_eq', if_true, if_false, Bool.false_eq_true, Bool.true_eq_false, reduceCtorEq, not_true_eq_false, not_false_eq_true]
  refine ⟨_, .inr (SqT.ofK hK), rfl, rfl, ?_⟩
  rcases h with rfl | rfl
  · exact ite2 (fun z => absurd z (by decide +kernel)) (fun _ => q)
  · exact ite2 (fun z => absurd z (by decide +kernel)) (fun _ => q)
theorem sc_look_kind : FnScope ["kind"] ["kind"] (defScope s_look_kind) := ⟨rfl, rfl, rfl, by decide +kernel, rfl, by decide +kernel, by decide +kernel⟩
theorem ok_look_kind (T : Txt K mg a) : FnOk P w K mg base CX0 1 a.f_look_kind a.d_look_kind ["kind"] spLookKind := by
  refine T.F_look_kind.ok sc_look_kind (fun vs H Q E h => ?_) (fun cdv A outer s H vs Q E hr h => ?_)
  · obtain ⟨kd, rfl, h, q⟩ := h
    rfl
  obtain ⟨kd, rfl, h, q⟩ := h
  exact ⟨t_look_kind K a, (pss_one (ps_if (pt_cmpR op_notIn_seq (pv 0) (pe_glob rfl T.m_KINDS rfl) (by with_unfolding_all rfl)) (pss_one ps_never) pss_nil)),
    rd_look_kind T.u_KINDS h q⟩

/-- the dict of lengths, and a plan of a kind with what it pays -/
def spSpreadStep : Sp := fun vs H Q _ => ∃ (ld cd st : Addr) (lk : List (List Key × V)) (ck : List (Key × V)) (rs : List Road) (m : Int) (c : Ct) (x y : Int), vs = [.ref ld, .ref cd, .ref st] ∧ H ld = some (.dT lk) ∧ Lens lk rs ∧ H cd = some (.dK ck) ∧ Cd m ck c ∧ H st = some (.tup (prv (x, y))) ∧ c x ≠ none ∧ c y = none ∧ sh rs x y ≠ none ∧ Q (.bl true) H
def t_is_spread_step_0 (K : PySem.W.Frag) : TS :=
  (tRet (tAndV (tDIn (tOp (rIxT K) (tVar 2) (tC (.int 0))) (tVar 1)) (tAndV (tDNotIn (tOp (rIxT K) (tVar 2) (tC (.int 1))) (tVar 1)) (tDIn (tVar 2) (tVar 0)))))
theorem t_is_spread_step_0_eq (K : PySem.W.Frag) (D : Ends) (σ : St) (H : Hp) : t_is_spread_step_0 K D σ H = (tRet (tAndV (tDIn (tOp (rIxT K) (tVar 2) (tC (.int 0))) (tVar 1)) (tAndV (tDNotIn (tOp (rIxT K) (tVar 2) (tC (.int 1))) (tVar 1)) (tDIn (tVar 2) (tVar 0))))) D σ H := rfl
def t_is_spread_step_1 (K : PySem.W.Frag) : TS :=
  (tIfS (tOr (tNot (tB (tCB (rIsi K) (tCons (tVar 2) (tCons (tC (.ty "tuple")) tNil))))) (tOr (tTest (tOp rNe (tCB (fun xs H Q => ∃ p ys, xs = [.ref p] ∧ (SqL K H p ys ∨ SqT K H p ys) ∧ Q (.int ys.length) H) (tCons (tVar 2) tNil)) (tC (.int 2)))) (tOr (tNot (tB (tCall spWhole [] E0 (tCons (tOp (rIxT K) (tVar 2) (tC (.int 0))) tNil)))) (tNot (tB (tCall spWhole [] E0 (tCons (tOp (rIxT K) (tVar 2) (tC (.int 1))) tNil))))))) (tRet (tC (.bl false))) tNext)
theorem t_is_spread_step_1_eq (K : PySem.W.Frag) (D : Ends) (σ : St) (H : Hp) : t_is_spread_step_1 K D σ H = (tIfS (tOr (tNot (tB (tCB (rIsi K) (tCons (tVar 2) (tCons (tC (.ty "tuple")) tNil))))) (tOr (tTest (tOp rNe (tCB (fun xs H Q => ∃ p ys, xs = [.ref p] ∧ (SqL K H p ys ∨ SqT K H p ys) ∧ Q (.int ys.length) H) (tCons (tVar 2) tNil)) (tC (.int 2)))) (tOr (tNot (tB (tCall spWhole [] E0 (tCons (tOp (rIxT K) (tVar 2) (tC (.int 0))) tNil)))) (tNot (tB (tCall spWhole [] E0 (tCons (tOp (rIxT K) (tVar 2) (tC (.int 1))) tNil))))))) (tRet (tC (.bl false))) tNext) D σ H := rfl
def t_is_spread_step (K : PySem.W.Frag) : TS :=
  (tSeq (tCut (t_is_spread_step_1 K))
  (t_is_spread_step_0 K))
theorem rd_is_spread_step {ld cd st : Addr} {lk : List (List Key × V)} {ck : List (Key × V)} {rs : List Road} {m : Int} {c : Ct} {x y : Int} (hl : H ld = some (.dT lk)) (L : Lens lk rs) (hc : H cd = some (.dK ck)) (C : Cd m ck c) (hs : H st = some (.tup (prv (x, y)))) (c1 : c x ≠ none) (c2 : c y = none) (c3 : sh rs x y ≠ none) (q : Q (.bl true) H) :
    t_is_spread_step K { nx := fun _ H' => Q .non H', rt := Q } (L2.start ["lengths", "costs", "step"] [.ref ld, .ref cd, .ref st]) H := by
  unfold t_is_spread_step
  simp only [t_is_spread_step_0_eq, t_is_spread_step_1_eq, tDGet, tDIn, tDNotIn, sDPut, tDisp, tPairs, iEnum, tComp_eq, capS, rAppend, Option.bind_some, Option.bind_none, Option.join_some, Option.map_some, List.getElem?_cons_zero, List.getElem?_cons_succ, V.str.injEq, V.ty.injEq, tFor_eq, tSeq, tNext, tAsg, gName, gTup, gCons, gNil, tCB, tCons, tNil, tVar, tC, tOp, tTest, tB, tOr, tNot, tAndV, tIfS, tRet, tCall, rI0, rNe, rIxT, L2.start, truV_int, truV_bl, scal_int, scal_bl, List.map_cons, List.map_nil, List.length_cons, List.length_nil, List.replicate, List.cons_append, List.nil_append, List.append_nil, Option.some.injEq, exists_eq_left', exists_eq_left, exists_and_left, List.cons.injEq, V.int.injEq, V.ref.injEq, V.bl.injEq, and_true, true_and, List.set_cons_zero, List.set_cons_succ, Nat.reduceAdd, Nat.reduceSub, Int.reduceToNat, Int.reducePow, Int.reduceNeg, Int.reduceMul, Int.reduceAdd, Int.reduceSub, decide_eq_true_eq, Bool.not_eq_true', decide_eq_false_iff_not, exists_const, and_assoc, exists_eq, exists_eq', if_true, if_false, Bool.false_eq_true, Bool.true_eq_false, reduceCtorEq, not_true_eq_false, not_false_eq_true]
  refine ⟨fun σ H' => H' = H ∧ σ = [some (.ref ld), some (.ref cd), some (.ref st)], ?_, ?_⟩
  · simp only [t_is_spread_step_0_eq, t_is_spread_step_1_eq, tDGet, tDIn, tDNotIn, sDPut, tDisp, tPairs, iEnum, tComp_eq, capS, rAppend, Option.bind_some, Option.bind_none, Option.join_some, Option.map_some, List.getElem?_cons_zero, List.getElem?_cons_succ, V.str.injEq, V.ty.injEq, tFor_eq, tSeq, tNext, tAsg, gName, gTup, gCons, gNil, tCB, tCons, tNil, tVar, tC, tOp, tTest, tB, tOr, tNot, tAndV, tIfS, tRet, tCall, rI0, rNe, rIxT, L2.start, truV_int, truV_bl, scal_int, scal_bl, List.map_cons, List.map_nil, List.length_cons, List.length_nil, List.replicate, List.cons_append, List.nil_append, List.append_nil, Option.some.injEq, exists_eq_left', exists_eq_left, exists_and_left, List.cons.injEq, V.int.injEq, V.ref.injEq, V.bl.injEq, and_true, true_and, List.set_cons_zero, List.set_cons_succ, Nat.reduceAdd, Nat.reduceSub, Int.reduceToNat, Int.reducePow, Int.reduceNeg, Int.reduceMul, Int.reduceAdd, Int.reduceSub, decide_eq_true_eq, Bool.not_eq_true', decide_eq_false_iff_not, exists_const, and_assoc, exists_eq, exists_eq', if_true, if_false, Bool.false_eq_true, Bool.true_eq_false, reduceCtorEq, not_true_eq_false, not_false_eq_true]
    refine isi_tup_tup hs ⟨true, rfl, ?_⟩
    refine ite2 (fun z => absurd z (by decide)) (fun _ => ?_)
    refine ⟨_, .inr (SqT.of hs), ?_⟩
    refine ite2 (fun z => absurd rfl z) (fun _ => ?_)
    refine ⟨_, SqT.of hs, _, rfl, _, rfl, true, rfl, ?_⟩
    refine ite2 (fun z => absurd z (by decide)) (fun _ => ?_)
    refine ⟨_, SqT.of hs, _, rfl, _, rfl, true, rfl, ?_⟩
    exact ite2 (fun z => absurd z (by decide)) (fun _ => rfl)
  · rintro σ H' ⟨e, rfl⟩
    rw [e]
    simp only [t_is_spread_step_0_eq, t_is_spread_step_1_eq, tDGet, tDIn, tDNotIn, sDPut, tDisp, tPairs, iEnum, tComp_eq, capS, rAppend, Option.bind_some, Option.bind_none, Option.join_some, Option.map_some, List.getElem?_cons_zero, List.getElem?_cons_succ, V.str.injEq, V.ty.injEq, tFor_eq, tSeq, tNext, tAsg, gName, gTup, gCons, gNil, tCB, tCons, tNil, tVar, tC, tOp, tTest, tB, tOr, tNot, tAndV, tIfS, tRet, tCall, rI0, rNe, rIxT, L2.start, truV_int, truV_bl, scal_int, scal_bl, List.map_cons, List.map_nil, List.length_cons, List.length_nil, List.replicate, List.cons_append, List.nil_append, List.append_nil, Option.some.injEq, exists_eq_left', exists_eq_left, exists_and_left, List.cons.injEq, V.int.injEq, V.ref.injEq, V.bl.injEq, and_true, true_and, List.set_cons_zero, List.set_cons_succ, Nat.reduceAdd, Nat.reduceSub, Int.reduceToNat, Int.reducePow, Int.reduceNeg, Int.reduceMul, Int.reduceAdd, Int.reduceSub, decide_eq_true_eq, Bool.not_eq_true', decide_eq_false_iff_not, exists_const, and_assoc, exists_eq, exists_eq', if_true, if_false, Bool.false_eq_true, Bool.true_eq_false, reduceCtorEq, not_true_eq_false, not_false_eq_true]
    refine ⟨_, SqT.of hs, _, rfl, _, DGet.k (k := .inl x) hc, ?_⟩
    have h1 : (valV ck (.inl x)).isSome = true := by
      rw [C.val]
      exact Option.isSome_iff_ne_none.mpr fun z => c1 (Option.map_eq_none_iff.mp z)
    rw [h1]
    refine iteT ⟨_, SqT.of hs, _, rfl, _, DGet.k (k := .inl y) hc, ?_⟩
    have h2 : valV ck (.inl y) = none := by rw [C.val, c2]; rfl
    rw [h2]
    refine ite2 (fun _ => ?_) (fun z => absurd rfl z)
    have hs2 : H st = some (.tup (([.inl x, .inl y] : List Key).map kV)) := hs
    refine ⟨_, DGet.t hl hs2, ?_⟩
    have h3 : (valV lk [.inl x, .inl y]).isSome = true := by
      rw [L.val]
      exact Option.isSome_iff_ne_none.mpr fun z => c3 (Option.map_eq_none_iff.mp z)
    rw [h3]
    exact q
theorem sc_is_spread_step : FnScope ["lengths", "costs", "step"] ["lengths", "costs", "step"] (defScope s_is_spread_step) := ⟨rfl, rfl, rfl, by decide +kernel, rfl, by decide +kernel, by decide +kernel⟩
theorem ok_is_spread_step (T : Txt K mg a) : FnOk P w K mg base CX0 2 a.f_is_spread_step a.d_is_spread_step ["lengths", "costs", "step"] spSpreadStep := by
  have G_is_whole := ok_is_whole (P := P) (w := w) (base := base) T
  refine T.F_is_spread_step.ok sc_is_spread_step (fun vs H Q E h => ?_) (fun cdv A outer s H vs Q E hr h => ?_)
  · obtain ⟨ld, cd, st, lk, ck, rs, m, c, x, y, rfl, hl, L, hc, C, hs, c1, c2, c3, q⟩ := h
    rfl
  obtain ⟨ld, cd, st, lk, ck, rs, m, c, x, y, rfl, hl, L, hc, C, hs, c1, c2, c3, q⟩ := h
  exact ⟨t_is_spread_step K, (pss_cons (ps_cut (ps_if (PW.pt (pw_or (pt_not (pt_val (pe_callB call_isinst rfl T.z_isinstance PyProof.Rows.boot_isinstance (pa_cons (pv 2) (pa_cons (pe_bltn rfl T.z_tuple boot_tuple rfl) pa_nil))))) (pw_or (pt_cmpR op_ne (pe_callB call_len_seq rfl T.z_len PySem.boot_len (pa_cons (pv 2) pa_nil)) pe_int (nomark _)) (pw_or (pt_not (pt_val (pe_call G_is_whole (hr.mono (by decide)) rfl T.m_is_whole T.F_is_whole.kp T.b_is_whole .nil pass0 (pa_cons (pe_ix ix_tup (pv 2) pe_int (fun _ _ => rfl)) pa_nil)))) (pw_or1 (pt_not (pt_val (pe_call G_is_whole (hr.mono (by decide)) rfl T.m_is_whole T.F_is_whole.kp T.b_is_whole .nil pass0 (pa_cons (pe_ix ix_tup (pv 2) pe_int (fun _ _ => rfl)) pa_nil))))))))) (pss_one (ps_ret pe_bl)) pss_nil))
  (pss_one (ps_ret (pe_and (pe_cmp (pc_din (hu_of hr) (pe_ix ix_tup (pv 2) pe_int (fun _ _ => rfl)) (pv 1))) (pe_and (pe_cmp (pc_dnotin (hu_of hr) (pe_ix ix_tup (pv 2) pe_int (fun _ _ => rfl)) (pv 1))) (pe_one (pe_cmp (pc_din (hu_of hr) (pv 2) (pv 0))))))))),
    rd_is_spread_step hl L hc C hs c1 c2 c3 q⟩

def spSpreadCosts : Sp := fun vs H Q _ => ∃ (ld pl : Addr) (lk : List (List Key × V)) (rs : List Road) (m : Int) (us : List Addr) (ps : List (Int × Int)), vs = [.ref ld, .ref pl] ∧ H ld = some (.dT lk) ∧ Lens lk rs ∧ GW m rs ∧ H pl = some (.lst (us.map V.ref)) ∧ Tps prv H us ps ∧ Spr (sh rs) m ps ∧
  ∀ (d : Addr) (kvs : List (Key × V)) (H' : Hp), Same H H' → H' d = some (.dK kvs) → Cd m kvs (spC (sh rs) ps).2 → Q (.ref d) H'
def t_spread_costs_0 (K : PySem.W.Frag) : TS :=
  (tSeq (tAsg (tOp (rI0 fun i j => .int (i + j)) (tVar 3) (tDGet (tVar 0) (tVar 5))) (gName 3))
  (sDPut (tVar 2) (tOp (rIxT K) (tVar 5) (tC (.int 1))) (tVar 3)))
theorem t_spread_costs_0_eq (K : PySem.W.Frag) (D : Ends) (σ : St) (H : Hp) : t_spread_costs_0 K D σ H = (tSeq (tAsg (tOp (rI0 fun i j => .int (i + j)) (tVar 3) (tDGet (tVar 0) (tVar 5))) (gName 3))
  (sDPut (tVar 2) (tOp (rIxT K) (tVar 5) (tC (.int 1))) (tVar 3))) D σ H := rfl
def t_spread_costs_1 (K : PySem.W.Frag) : TS :=
  (tSeq (tCut (tIfS (tNot (tB (tCall spSpreadStep [] E0 (tCons (tVar 0) (tCons (tVar 2) (tCons (tVar 5) tNil)))))) tNever tNext))
  (t_spread_costs_0 K))
theorem t_spread_costs_1_eq (K : PySem.W.Frag) (D : Ends) (σ : St) (H : Hp) : t_spread_costs_1 K D σ H = (tSeq (tCut (tIfS (tNot (tB (tCall spSpreadStep [] E0 (tCons (tVar 0) (tCons (tVar 2) (tCons (tVar 5) tNil)))))) tNever tNext))
  (t_spread_costs_0 K)) D σ H := rfl
def t_spread_costs (K : PySem.W.Frag) : TS :=
  (tSeq (tAsg (tDisp (((tC (.int 0)), (tC (.int 0))) :: [])) (gName 2))
  (tSeq (tAsg (tC (.int 0)) (gName 3))
  (tSeq (tFor (iEnum K (tCons (tVar 1) tNil)) (gTup K 2 (gCons (gName 4) (gCons (gName 5) gNil)))
  (t_spread_costs_1 K))
  (tRet (tVar 2)))))
theorem rd_spread_costs {ld pl : Addr} {lk : List (List Key × V)} {rs : List Road} {m : Int} {us : List Addr} {ps : List (Int × Int)} (hl : H ld = some (.dT lk)) (L : Lens lk rs) (G : GW m rs) (hp : H pl = some (.lst (us.map V.ref))) (hT : Tps prv H us ps) (S : Spr (sh rs) m ps)
    (q : ∀ (d : Addr) (kvs : List (Key × V)) (H' : Hp), Same H H' → H' d = some (.dK kvs) → Cd m kvs (spC (sh rs) ps).2 → Q (.ref d) H') :
    t_spread_costs K { nx := fun _ H' => Q .non H', rt := Q } (L2.start ["lengths", "plan", "costs", "paid", "k", "step"] [.ref ld, .ref pl]) H := by
  unfold t_spread_costs
  have m1 := G.m1
  have m60 := G.m60
  simp only [t_spread_costs_0_eq, t_spread_costs_1_eq, tDGet, tDIn, sDPut, tDisp, tPairs, iEnum, tComp_eq, capS, rAppend, Option.bind_some, Option.bind_none, Option.join_some, Option.map_some, List.getElem?_cons_zero, List.getElem?_cons_succ, V.str.injEq, V.ty.injEq, tFor_eq, tSeq, tNext, tAsg, gName, gTup, gCons, gNil, tCons, tNil, tVar, tC, tOp, tTest, tB, tNot, tIfS, tRet, tTup, tCall, rI0, rEq, rIxL, rIxT, L2.start, truV_int, truV_bl, scal_int, scal_bl, List.map_cons, List.map_nil, List.length_cons, List.length_nil, List.replicate, List.cons_append, List.nil_append, List.append_nil, Option.some.injEq, exists_eq_left', exists_eq_left, exists_and_left, List.cons.injEq, V.int.injEq, V.ref.injEq, V.bl.injEq, and_true, true_and, List.set_cons_zero, List.set_cons_succ, Nat.reduceAdd, Nat.reduceSub, Int.reduceToNat, Int.reducePow, Int.reduceNeg, Int.reduceMul, Int.reduceAdd, Int.reduceSub, decide_eq_true_eq, Bool.not_eq_true', decide_eq_false_iff_not, exists_const, and_assoc, exists_eq, exists_eq', if_true, if_false, Bool.false_eq_true, Bool.true_eq_false, reduceCtorEq, not_true_eq_false, not_false_eq_true]
  refine fun d hd => ⟨upd_same, [(.inl 0, .int 0)], rfl, by decide, ?_⟩
  have s0 : Same H (L2.upd (L2.upd H d (.dK [])) d (.dK (mergeK [] [(.inl 0, .int 0)]))) := by
    rw [upd_upd]
    exact same_new hd _
  refine ⟨⟨_, SqL.of (s0 _ _ hp)⟩, ?_⟩
  refine for_enumF (K := K) (xs := us.map V.ref) (fun i σ H' => Same H H' ∧ ∃ (kvs : List (Key × V)), H' d = some (.dK kvs) ∧ Cd m kvs (spC (sh rs) (ps.take i)).2 ∧ ∃ x y, σ = [some (.ref ld), some (.ref pl), some (.ref d), some (.int (spC (sh rs) (ps.take i)).1), x, y]) ⟨s0, [(.inl 0, .int 0)], upd_same, Cd.zero m1, _, _, rfl⟩ ?_ ?_ ?_
  · rintro i σ H' _ ⟨s, _⟩
    exact SqL.of (s _ _ hp)
  · rintro i t u σ H1 hx ⟨s1, kvs, h1, C, x, y, rfl⟩ hu
    obtain ⟨t, et, rfl⟩ := map_at hx
    obtain ⟨⟨av, bv⟩, er, hr0⟩ := hT.at et
    obtain ⟨o1, o2, o3⟩ := S.ok i _ er
    simp only at o1 o2 o3
    obtain ⟨l, hl3⟩ := Option.ne_none_iff_exists'.mp o3
    obtain ⟨_, _, b0, b1, _⟩ := sh_mem rs G.gr _ _ _ hl3
    have nu : d ≠ u := ne_of_none h1 hu
    simp only [t_spread_costs_0_eq, t_spread_costs_1_eq, tDGet, tDIn, sDPut, tDisp, tPairs, iEnum, tComp_eq, capS, rAppend, Option.bind_some, Option.bind_none, Option.join_some, Option.map_some, List.getElem?_cons_zero, List.getElem?_cons_succ, V.str.injEq, V.ty.injEq, tFor_eq, tSeq, tNext, tAsg, gName, gTup, gCons, gNil, tCons, tNil, tVar, tC, tOp, tTest, tB, tNot, tIfS, tRet, tTup, tCall, rI0, rEq, rIxL, rIxT, L2.start, truV_int, truV_bl, scal_int, scal_bl, List.map_cons, List.map_nil, List.length_cons, List.length_nil, List.replicate, List.cons_append, List.nil_append, List.append_nil, Option.some.injEq, exists_eq_left', exists_eq_left, exists_and_left, List.cons.injEq, V.int.injEq, V.ref.injEq, V.bl.injEq, and_true, true_and, List.set_cons_zero, List.set_cons_succ, Nat.reduceAdd, Nat.reduceSub, Int.reduceToNat, Int.reducePow, Int.reduceNeg, Int.reduceMul, Int.reduceAdd, Int.reduceSub, decide_eq_true_eq, Bool.not_eq_true', decide_eq_false_iff_not, exists_const, and_assoc, exists_eq, exists_eq', if_true, if_false, Bool.false_eq_true, Bool.true_eq_false, reduceCtorEq, not_true_eq_false, not_false_eq_true]
    refine ⟨_, SqT.of upd_same, rfl, _, _, rfl, _, _, rfl, rfl, ?_⟩
    have s2 := same_new hu (.tup [.int (i : Int), .ref t])
    have h2 : (L2.upd H1 u (.tup [.int (i : Int), .ref t])) u = some (.tup [.int (i : Int), .ref t]) := upd_same
    generalize L2.upd H1 u (.tup [.int (i : Int), .ref t]) = H2 at s2 h2 ⊢
    have hl2 := s2 _ _ (s1 _ _ hl)
    have ht2 := s2 _ _ (s1 _ _ hr0)
    refine ⟨fun σ H' => H' = H2 ∧ σ = [some (.ref ld), some (.ref pl), some (.ref d), some (.int (spC (sh rs) (ps.take i)).1), some (.int (i : Int)), some (.ref t)], ?_, ?_⟩
    · simp only [t_spread_costs_0_eq, t_spread_costs_1_eq, tDGet, tDIn, sDPut, tDisp, tPairs, iEnum, tComp_eq, capS, rAppend, Option.bind_some, Option.bind_none, Option.join_some, Option.map_some, List.getElem?_cons_zero, List.getElem?_cons_succ, V.str.injEq, V.ty.injEq, tFor_eq, tSeq, tNext, tAsg, gName, gTup, gCons, gNil, tCons, tNil, tVar, tC, tOp, tTest, tB, tNot, tIfS, tRet, tTup, tCall, rI0, rEq, rIxL, rIxT, L2.start, truV_int, truV_bl, scal_int, scal_bl, List.map_cons, List.map_nil, List.length_cons, List.length_nil, List.replicate, List.cons_append, List.nil_append, List.append_nil, Option.some.injEq, exists_eq_left', exists_eq_left, exists_and_left, List.cons.injEq, V.int.injEq, V.ref.injEq, V.bl.injEq, and_true, true_and, List.set_cons_zero, List.set_cons_succ, Nat.reduceAdd, Nat.reduceSub, Int.reduceToNat, Int.reducePow, Int.reduceNeg, Int.reduceMul, Int.reduceAdd, Int.reduceSub, decide_eq_true_eq, Bool.not_eq_true', decide_eq_false_iff_not, exists_const, and_assoc, exists_eq, exists_eq', if_true, if_false, Bool.false_eq_true, Bool.true_eq_false, reduceCtorEq, not_true_eq_false, not_false_eq_true]
      refine ⟨ld, d, t, lk, kvs, rs, m, _, av, bv, rfl, hl2, L, s2 _ _ h1, C, ht2, o1, o2, o3, ?_⟩
      exact ⟨true, rfl, ite2 (fun z => absurd z (by decide)) (fun _ => rfl)⟩
    · rintro σ H3 ⟨rfl, rfl⟩
      simp only [t_spread_costs_0_eq, t_spread_costs_1_eq, tDGet, tDIn, sDPut, tDisp, tPairs, iEnum, tComp_eq, capS, rAppend, Option.bind_some, Option.bind_none, Option.join_some, Option.map_some, List.getElem?_cons_zero, List.getElem?_cons_succ, V.str.injEq, V.ty.injEq, tFor_eq, tSeq, tNext, tAsg, gName, gTup, gCons, gNil, tCons, tNil, tVar, tC, tOp, tTest, tB, tNot, tIfS, tRet, tTup, tCall, rI0, rEq, rIxL, rIxT, L2.start, truV_int, truV_bl, scal_int, scal_bl, List.map_cons, List.map_nil, List.length_cons, List.length_nil, List.replicate, List.cons_append, List.nil_append, List.append_nil, Option.some.injEq, exists_eq_left', exists_eq_left, exists_and_left, List.cons.injEq, V.int.injEq, V.ref.injEq, V.bl.injEq, and_true, true_and, List.set_cons_zero, List.set_cons_succ, Nat.reduceAdd, Nat.reduceSub, Int.reduceToNat, Int.reducePow, Int.reduceNeg, Int.reduceMul, Int.reduceAdd, Int.reduceSub, decide_eq_true_eq, Bool.not_eq_true', decide_eq_false_iff_not, exists_const, and_assoc, exists_eq, exists_eq', if_true, if_false, Bool.false_eq_true, Bool.true_eq_false, reduceCtorEq, not_true_eq_false, not_false_eq_true]
      have ht3 : H3 t = some (.tup (([.inl av, .inl bv] : List Key).map kV)) := ht2
      refine ⟨_, DGet.t (k := [.inl av, .inl bv]) hl2 ht3 |> fun z => by rw [L.val, hl3] at z; exact z, ?_⟩
      have est := spC_take (f := sh rs) er
      have e1 : (stC (sh rs) (spC (sh rs) (ps.take i)) av bv).1 = (spC (sh rs) (ps.take i)).1 + l := by unfold stC; simp only; rw [hl3]; rfl
      have hle := C.le (by omega)
      have big : (1000 : Nat) < sizeLine := by decide
      refine ⟨l, rfl, _, SqT.of ht2, _, rfl, _, DPut.k (k := .inl bv) (s2 _ _ h1) (by omega), (s1.trans s2).put hd, _, upd_same, ?_, ?_⟩
      · rw [est, ← e1]
        exact C.put b0 b1 o2
      · rw [est, ← e1]
  · rintro σ H1 ⟨s1, kvs, h1, C, x, y, rfl⟩
    simp only [t_spread_costs_0_eq, t_spread_costs_1_eq, tDGet, tDIn, sDPut, tDisp, tPairs, iEnum, tComp_eq, capS, rAppend, Option.bind_some, Option.bind_none, Option.join_some, Option.map_some, List.getElem?_cons_zero, List.getElem?_cons_succ, V.str.injEq, V.ty.injEq, tFor_eq, tSeq, tNext, tAsg, gName, gTup, gCons, gNil, tCons, tNil, tVar, tC, tOp, tTest, tB, tNot, tIfS, tRet, tTup, tCall, rI0, rEq, rIxL, rIxT, L2.start, truV_int, truV_bl, scal_int, scal_bl, List.map_cons, List.map_nil, List.length_cons, List.length_nil, List.replicate, List.cons_append, List.nil_append, List.append_nil, Option.some.injEq, exists_eq_left', exists_eq_left, exists_and_left, List.cons.injEq, V.int.injEq, V.ref.injEq, V.bl.injEq, and_true, true_and, List.set_cons_zero, List.set_cons_succ, Nat.reduceAdd, Nat.reduceSub, Int.reduceToNat, Int.reducePow, Int.reduceNeg, Int.reduceMul, Int.reduceAdd, Int.reduceSub, decide_eq_true_eq, Bool.not_eq_true', decide_eq_false_iff_not, exists_const, and_assoc, exists_eq, exists_eq', if_true, if_false, Bool.false_eq_true, Bool.true_eq_false, reduceCtorEq, not_true_eq_false, not_false_eq_true]
    rw [List.take_of_length_le (by rw [List.length_map, hT.1]; exact Nat.le_refl _)] at C
    exact q d kvs H1 s1 h1 C
theorem sc_spread_costs : FnScope ["lengths", "plan", "costs", "paid", "k", "step"] ["lengths", "plan"] (defScope s_spread_costs) := ⟨rfl, rfl, rfl, by decide +kernel, rfl, by decide +kernel, by decide +kernel⟩
theorem ok_spread_costs (T : Txt K mg a) : FnOk P w K mg base CX0 3 a.f_spread_costs a.d_spread_costs ["lengths", "plan"] spSpreadCosts := by
  have G_is_spread_step := ok_is_spread_step (P := P) (w := w) (base := base) T
  refine T.F_spread_costs.ok sc_spread_costs (fun vs H Q E h => ?_) (fun cdv A outer s H vs Q E hr h => ?_)
  · obtain ⟨ld, pl, lk, rs, m, us, ps, rfl, hl, L, G, hp, hT, S, q⟩ := h
    rfl
  obtain ⟨ld, pl, lk, rs, m, us, ps, rfl, hl, L, G, hp, hT, S, q⟩ := h
  exact ⟨t_spread_costs K, (pss_cons (ps_set (i := 2) sc_spread_costs.nd rfl (Or.inl rfl) (pe_disp (pps_cons pe_int pe_int pps_nil) rfl rfl (fun z => nomatch z) (by decide)))
  (pss_cons (ps_set (i := 3) sc_spread_costs.nd rfl (Or.inl rfl) pe_int)
  (pss_cons (ps_for PassesOwn.never rfl (pi_enum rfl T.z_enumerate (pa_cons (pv 1) pa_nil)) (pg_tup rfl (pgs_cons (pg_name (i := 4) sc_spread_costs.nd rfl (Or.inl rfl)) (pgs_cons (pg_name (i := 5) sc_spread_costs.nd rfl (Or.inl rfl)) pgs_nil)))
  (pss_cons (ps_cut (ps_if (pt_not (pt_val (pe_call G_is_spread_step (hr.mono (by decide)) rfl T.m_is_spread_step T.F_is_spread_step.kp T.b_is_spread_step .nil pass0 (pa_cons (pv 0) (pa_cons (pv 2) (pa_cons (pv 5) pa_nil)))))) (pss_one ps_never) pss_nil))
  (pss_cons (ps_set (i := 3) sc_spread_costs.nd rfl (Or.inl rfl) (pe_op op_add (pv 3) (pe_dget (hu_of hr) (pv 0) (pv 5) (fun _ _ => rfl))))
  (pss_one (ps_dput (hu_of hr) (pv 2) (pe_ix ix_tup (pv 5) pe_int (fun _ _ => rfl)) (pv 3) rfl)))))
  (pss_one (ps_ret (pv 2)))))),
    rd_spread_costs hl L G hp hT S q⟩


def spWalkStep : Sp := fun vs H Q _ => ∃ (ld pl : Addr) (lk : List (List Key × V)) (rs : List Road) (ws : List Int) (k : Nat), vs = [.ref ld, .ref pl, .int (k : Int)] ∧ H ld = some (.dT lk) ∧ Lens lk rs ∧ H pl = some (.lst (ws.map V.int)) ∧ k < ws.length ∧ ws[0]? = some 0 ∧ (∀ (i : Nat) a b, ws[i]? = some a → ws[i + 1]? = some b → sh rs a b ≠ none) ∧ ∀ H', Same H H' → Q (.bl true) H'
def t_is_walk_step_0 (K : PySem.W.Frag) : TS :=
  (tRet (tDIn (tTup (tCons (tOp (rIxL K) (tVar 1) (tOp (rI0 fun i j => .int (i - j)) (tVar 2) (tC (.int 1)))) (tCons (tOp (rIxL K) (tVar 1) (tVar 2)) tNil))) (tVar 0)))
theorem t_is_walk_step_0_eq (K : PySem.W.Frag) (D : Ends) (σ : St) (H : Hp) : t_is_walk_step_0 K D σ H = (tRet (tDIn (tTup (tCons (tOp (rIxL K) (tVar 1) (tOp (rI0 fun i j => .int (i - j)) (tVar 2) (tC (.int 1)))) (tCons (tOp (rIxL K) (tVar 1) (tVar 2)) tNil))) (tVar 0))) D σ H := rfl
def t_is_walk_step_1 (K : PySem.W.Frag) : TS :=
  (tSeq (tCut (tIfS (tTest (tOp rEq (tVar 2) (tC (.int 0)))) (tRet (tOp rEq (tOp (rIxL K) (tVar 1) (tC (.int 0))) (tC (.int 0)))) tNext))
  (t_is_walk_step_0 K))
theorem t_is_walk_step_1_eq (K : PySem.W.Frag) (D : Ends) (σ : St) (H : Hp) : t_is_walk_step_1 K D σ H = (tSeq (tCut (tIfS (tTest (tOp rEq (tVar 2) (tC (.int 0)))) (tRet (tOp rEq (tOp (rIxL K) (tVar 1) (tC (.int 0))) (tC (.int 0)))) tNext))
  (t_is_walk_step_0 K)) D σ H := rfl
def t_is_walk_step (K : PySem.W.Frag) : TS :=
  (tSeq (tCut (tIfS (tNot (tB (tCall spWhole [] E0 (tCons (tOp (rIxL K) (tVar 1) (tVar 2)) tNil)))) (tRet (tC (.bl false))) tNext))
  (t_is_walk_step_1 K))
theorem rd_is_walk_step {ld pl : Addr} {lk : List (List Key × V)} {rs : List Road} {ws : List Int} {k : Nat} (hl : H ld = some (.dT lk)) (L : Lens lk rs) (hp : H pl = some (.lst (ws.map V.int))) (hk : k < ws.length) (h0 : ws[0]? = some 0) (ok : ∀ (i : Nat) a b, ws[i]? = some a → ws[i + 1]? = some b → sh rs a b ≠ none) (q : ∀ H', Same H H' → Q (.bl true) H') :
    t_is_walk_step K { nx := fun _ H' => Q .non H', rt := Q } (L2.start ["lengths", "plan", "k"] [.ref ld, .ref pl, .int (k : Int)]) H := by
  unfold t_is_walk_step
  simp only [t_is_walk_step_0_eq, t_is_walk_step_1_eq, tDSetD, tDGet, tDIn, tDNewK, iEnum, tComp_eq, capS, rAppend, Option.bind_some, Option.bind_none, Option.join_some, Option.map_some, List.getElem?_cons_zero, List.getElem?_cons_succ, V.str.injEq, V.ty.injEq, tFor_eq, tSeq, tNext, tAsg, gName, gTup, gCons, gNil, tCons, tNil, tVar, tC, tOp, tTest, tB, tNot, tIfS, tRet, tDrop, tTup, tCall, rI0, rEq, rIxL, L2.start, truV_int, truV_bl, scal_int, scal_bl, List.map_cons, List.map_nil, List.length_cons, List.length_nil, List.replicate, List.cons_append, List.nil_append, List.append_nil, Option.some.injEq, exists_eq_left', exists_eq_left, exists_and_left, List.cons.injEq, V.int.injEq, V.ref.injEq, V.bl.injEq, and_true, true_and, List.set_cons_zero, List.set_cons_succ, Nat.reduceAdd, Nat.reduceSub, Int.reduceToNat, Int.reducePow, Int.reduceNeg, Int.reduceMul, Int.reduceAdd, Int.reduceSub, decide_eq_true_eq, Bool.not_eq_true', decide_eq_false_iff_not, exists_const, and_assoc, exists_eq, exists_eq', if_true, if_false, Bool.false_eq_true, Bool.true_eq_false, reduceCtorEq, not_true_eq_false, not_false_eq_true]
  have ek : ws[k]? = some ws[k] := List.getElem?_eq_getElem hk
  have ik : atI (ws.map V.int) (k : Int) = some (.int ws[k]) := atI_nat (by rw [List.getElem?_map, ek]; rfl)
  refine ⟨fun σ H' => H' = H ∧ σ = [some (.ref ld), some (.ref pl), some (.int (k : Int))], ?_, ?_⟩
  · simp only [t_is_walk_step_0_eq, t_is_walk_step_1_eq, tDSetD, tDGet, tDIn, tDNewK, iEnum, tComp_eq, capS, rAppend, Option.bind_some, Option.bind_none, Option.join_some, Option.map_some, List.getElem?_cons_zero, List.getElem?_cons_succ, V.str.injEq, V.ty.injEq, tFor_eq, tSeq, tNext, tAsg, gName, gTup, gCons, gNil, tCons, tNil, tVar, tC, tOp, tTest, tB, tNot, tIfS, tRet, tDrop, tTup, tCall, rI0, rEq, rIxL, L2.start, truV_int, truV_bl, scal_int, scal_bl, List.map_cons, List.map_nil, List.length_cons, List.length_nil, List.replicate, List.cons_append, List.nil_append, List.append_nil, Option.some.injEq, exists_eq_left', exists_eq_left, exists_and_left, List.cons.injEq, V.int.injEq, V.ref.injEq, V.bl.injEq, and_true, true_and, List.set_cons_zero, List.set_cons_succ, Nat.reduceAdd, Nat.reduceSub, Int.reduceToNat, Int.reducePow, Int.reduceNeg, Int.reduceMul, Int.reduceAdd, Int.reduceSub, decide_eq_true_eq, Bool.not_eq_true', decide_eq_false_iff_not, exists_const, and_assoc, exists_eq, exists_eq', if_true, if_false, Bool.false_eq_true, Bool.true_eq_false, reduceCtorEq, not_true_eq_false, not_false_eq_true]
    refine ⟨_, SqL.of hp, _, ik, _, rfl, true, rfl, ?_⟩
    exact ite2 (fun z => absurd z (by decide)) (fun _ => rfl)
  · rintro σ H' ⟨e, rfl⟩
    rw [e]
    simp only [t_is_walk_step_0_eq, t_is_walk_step_1_eq, tDSetD, tDGet, tDIn, tDNewK, iEnum, tComp_eq, capS, rAppend, Option.bind_some, Option.bind_none, Option.join_some, Option.map_some, List.getElem?_cons_zero, List.getElem?_cons_succ, V.str.injEq, V.ty.injEq, tFor_eq, tSeq, tNext, tAsg, gName, gTup, gCons, gNil, tCons, tNil, tVar, tC, tOp, tTest, tB, tNot, tIfS, tRet, tDrop, tTup, tCall, rI0, rEq, rIxL, L2.start, truV_int, truV_bl, scal_int, scal_bl, List.map_cons, List.map_nil, List.length_cons, List.length_nil, List.replicate, List.cons_append, List.nil_append, List.append_nil, Option.some.injEq, exists_eq_left', exists_eq_left, exists_and_left, List.cons.injEq, V.int.injEq, V.ref.injEq, V.bl.injEq, and_true, true_and, List.set_cons_zero, List.set_cons_succ, Nat.reduceAdd, Nat.reduceSub, Int.reduceToNat, Int.reducePow, Int.reduceNeg, Int.reduceMul, Int.reduceAdd, Int.reduceSub, decide_eq_true_eq, Bool.not_eq_true', decide_eq_false_iff_not, exists_const, and_assoc, exists_eq, exists_eq', if_true, if_false, Bool.false_eq_true, Bool.true_eq_false, reduceCtorEq, not_true_eq_false, not_false_eq_true]
    refine ⟨fun σ H' => k ≠ 0 ∧ H' = H ∧ σ = [some (.ref ld), some (.ref pl), some (.int (k : Int))], ?_, ?_⟩
    · simp only [t_is_walk_step_0_eq, t_is_walk_step_1_eq, tDSetD, tDGet, tDIn, tDNewK, iEnum, tComp_eq, capS, rAppend, Option.bind_some, Option.bind_none, Option.join_some, Option.map_some, List.getElem?_cons_zero, List.getElem?_cons_succ, V.str.injEq, V.ty.injEq, tFor_eq, tSeq, tNext, tAsg, gName, gTup, gCons, gNil, tCons, tNil, tVar, tC, tOp, tTest, tB, tNot, tIfS, tRet, tDrop, tTup, tCall, rI0, rEq, rIxL, L2.start, truV_int, truV_bl, scal_int, scal_bl, List.map_cons, List.map_nil, List.length_cons, List.length_nil, List.replicate, List.cons_append, List.nil_append, List.append_nil, Option.some.injEq, exists_eq_left', exists_eq_left, exists_and_left, List.cons.injEq, V.int.injEq, V.ref.injEq, V.bl.injEq, and_true, true_and, List.set_cons_zero, List.set_cons_succ, Nat.reduceAdd, Nat.reduceSub, Int.reduceToNat, Int.reducePow, Int.reduceNeg, Int.reduceMul, Int.reduceAdd, Int.reduceSub, decide_eq_true_eq, Bool.not_eq_true', decide_eq_false_iff_not, exists_const, and_assoc, exists_eq, exists_eq', if_true, if_false, Bool.false_eq_true, Bool.true_eq_false, reduceCtorEq, not_true_eq_false, not_false_eq_true]
      refine ite2 (fun c => ?_) (fun c => by omega)
      have i0 : atI (ws.map V.int) 0 = some (.int 0) := atI_nat (j := 0) (by rw [List.getElem?_map, h0]; rfl)
      refine ⟨_, SqL.of hp, _, i0, ?_⟩
      exact ⟨rfl, q _ (.refl _)⟩
    · rintro σ H' ⟨k0, e, rfl⟩
      rw [e]
      simp only [t_is_walk_step_0_eq, t_is_walk_step_1_eq, tDSetD, tDGet, tDIn, tDNewK, iEnum, tComp_eq, capS, rAppend, Option.bind_some, Option.bind_none, Option.join_some, Option.map_some, List.getElem?_cons_zero, List.getElem?_cons_succ, V.str.injEq, V.ty.injEq, tFor_eq, tSeq, tNext, tAsg, gName, gTup, gCons, gNil, tCons, tNil, tVar, tC, tOp, tTest, tB, tNot, tIfS, tRet, tDrop, tTup, tCall, rI0, rEq, rIxL, L2.start, truV_int, truV_bl, scal_int, scal_bl, List.map_cons, List.map_nil, List.length_cons, List.length_nil, List.replicate, List.cons_append, List.nil_append, List.append_nil, Option.some.injEq, exists_eq_left', exists_eq_left, exists_and_left, List.cons.injEq, V.int.injEq, V.ref.injEq, V.bl.injEq, and_true, true_and, List.set_cons_zero, List.set_cons_succ, Nat.reduceAdd, Nat.reduceSub, Int.reduceToNat, Int.reducePow, Int.reduceNeg, Int.reduceMul, Int.reduceAdd, Int.reduceSub, decide_eq_true_eq, Bool.not_eq_true', decide_eq_false_iff_not, exists_const, and_assoc, exists_eq, exists_eq', if_true, if_false, Bool.false_eq_true, Bool.true_eq_false, reduceCtorEq, not_true_eq_false, not_false_eq_true]
      obtain ⟨j, rfl⟩ : ∃ j, k = j + 1 := ⟨k - 1, by omega⟩
      have ej : ws[j]? = some ws[j] := List.getElem?_eq_getElem (by omega)
      have ij : atI (ws.map V.int) (((j + 1 : Nat) : Int) - 1) = some (.int ws[j]) := by
        rw [show ((j + 1 : Nat) : Int) - 1 = (j : Int) by omega]
        exact atI_nat (by rw [List.getElem?_map, ej]; rfl)
      refine ⟨_, SqL.of hp, _, ij, _, SqL.of hp, _, ik, by decide, fun u hu => ?_⟩
      have s1 := same_new hu (.tup [.int ws[j], .int ws[j + 1]])
      have h1 : (L2.upd H u (.tup [.int ws[j], .int ws[j + 1]])) u = some (.tup [.int ws[j], .int ws[j + 1]]) := upd_same
      generalize L2.upd H u (.tup [.int ws[j], .int ws[j + 1]]) = H1 at s1 h1 ⊢
      have h1' : H1 u = some (.tup (([.inl ws[j], .inl ws[j + 1]] : List Key).map kV)) := h1
      refine ⟨_, DGet.t (s1 _ _ hl) h1', ?_⟩
      have h3 : (valV lk [.inl ws[j], .inl ws[j + 1]]).isSome = true := by
        rw [L.val]
        exact Option.isSome_iff_ne_none.mpr fun z => ok j _ _ ej ek (Option.map_eq_none_iff.mp z)
      rw [h3]
      exact q _ s1
theorem sc_is_walk_step : FnScope ["lengths", "plan", "k"] ["lengths", "plan", "k"] (defScope s_is_walk_step) := ⟨rfl, rfl, rfl, by decide +kernel, rfl, by decide +kernel, by decide +kernel⟩
theorem ok_is_walk_step (T : Txt K mg a) : FnOk P w K mg base CX0 2 a.f_is_walk_step a.d_is_walk_step ["lengths", "plan", "k"] spWalkStep := by
  have G_is_whole := ok_is_whole (P := P) (w := w) (base := base) T
  refine T.F_is_walk_step.ok sc_is_walk_step (fun vs H Q E h => ?_) (fun cdv A outer s H vs Q E hr h => ?_)
  · obtain ⟨ld, pl, lk, rs, ws, k, rfl, hl, L, hp, hk, h0, ok', q⟩ := h
    rfl
  obtain ⟨ld, pl, lk, rs, ws, k, rfl, hl, L, hp, hk, h0, ok', q⟩ := h
  exact ⟨t_is_walk_step K, (pss_cons (ps_cut (ps_if (pt_not (pt_val (pe_call G_is_whole (hr.mono (by decide)) rfl T.m_is_whole T.F_is_whole.kp T.b_is_whole .nil pass0 (pa_cons (pe_ix ix_list (pv 1) (pv 2) (fun _ _ => rfl)) pa_nil)))) (pss_one (ps_ret pe_bl)) pss_nil))
  (pss_cons (ps_cut (ps_if (pt_cmpR op_eq (pv 2) pe_int (nomark _)) (pss_one (ps_ret (pe_cmpR op_eq (pe_ix ix_list (pv 1) pe_int (fun _ _ => rfl)) pe_int (nomark _)))) pss_nil))
  (pss_one (ps_ret (pe_cmp (pc_din (hu_of hr) (pe_tup (pa_cons (pe_ix ix_list (pv 1) (pe_op op_sub (pv 2) pe_int) (fun _ _ => rfl)) (pa_cons (pe_ix ix_list (pv 1) (pv 2) (fun _ _ => rfl)) pa_nil))) (pv 0))))))),
    rd_is_walk_step hl L hp hk h0 ok' q⟩

def spWalkCosts : Sp := fun vs H Q _ => ∃ (ld pl : Addr) (lk : List (List Key × V)) (rs : List Road) (m : Int) (ws : List Int), vs = [.ref ld, .ref pl] ∧ H ld = some (.dT lk) ∧ Lens lk rs ∧ GW m rs ∧ H pl = some (.lst (ws.map V.int)) ∧ Wlk (sh rs) m ws ∧
  ∀ (d : Addr) (kvs : List (Key × V)) (H' : Hp), Same H H' → H' d = some (.dK kvs) → Cd m kvs (wkC (sh rs) ws (ws.length - 1)).2 → Q (.ref d) H'
def t_walk_costs_0 (K : PySem.W.Frag) : TS :=
  (tIfS (tTest (tOp (rI0 fun i j => .bl (decide (j < i))) (tVar 4) (tC (.int 0)))) (tAsg (tOp (rI0 fun i j => .int (i + j)) (tVar 3) (tDGet (tVar 0) (tTup (tCons (tOp (rIxL K) (tVar 1) (tOp (rI0 fun i j => .int (i - j)) (tVar 4) (tC (.int 1)))) (tCons (tVar 5) tNil))))) (gName 3)) tNext)
theorem t_walk_costs_0_eq (K : PySem.W.Frag) (D : Ends) (σ : St) (H : Hp) : t_walk_costs_0 K D σ H = (tIfS (tTest (tOp (rI0 fun i j => .bl (decide (j < i))) (tVar 4) (tC (.int 0)))) (tAsg (tOp (rI0 fun i j => .int (i + j)) (tVar 3) (tDGet (tVar 0) (tTup (tCons (tOp (rIxL K) (tVar 1) (tOp (rI0 fun i j => .int (i - j)) (tVar 4) (tC (.int 1)))) (tCons (tVar 5) tNil))))) (gName 3)) tNext) D σ H := rfl
def t_walk_costs_1 (K : PySem.W.Frag) : TS :=
  (tSeq (tCut (tIfS (tNot (tB (tCall spWalkStep [] E0 (tCons (tVar 0) (tCons (tVar 1) (tCons (tVar 4) tNil)))))) tNever tNext))
  (tSeq (tCut (t_walk_costs_0 K))
  (tDrop (tDSetD (tVar 2) (tVar 5) (tVar 3)))))
theorem t_walk_costs_1_eq (K : PySem.W.Frag) (D : Ends) (σ : St) (H : Hp) : t_walk_costs_1 K D σ H = (tSeq (tCut (tIfS (tNot (tB (tCall spWalkStep [] E0 (tCons (tVar 0) (tCons (tVar 1) (tCons (tVar 4) tNil)))))) tNever tNext))
  (tSeq (tCut (t_walk_costs_0 K))
  (tDrop (tDSetD (tVar 2) (tVar 5) (tVar 3))))) D σ H := rfl
def t_walk_costs (K : PySem.W.Frag) : TS :=
  (tSeq (tAsg tDNewK (gName 2))
  (tSeq (tAsg (tC (.int 0)) (gName 3))
  (tSeq (tFor (iEnum K (tCons (tVar 1) tNil)) (gTup K 2 (gCons (gName 4) (gCons (gName 5) gNil)))
  (t_walk_costs_1 K))
  (tRet (tVar 2)))))
theorem rd_walk_costs {ld pl : Addr} {lk : List (List Key × V)} {rs : List Road} {m : Int} {ws : List Int} (hl : H ld = some (.dT lk)) (L : Lens lk rs) (G : GW m rs) (hp : H pl = some (.lst (ws.map V.int))) (W : Wlk (sh rs) m ws)
    (q : ∀ (d : Addr) (kvs : List (Key × V)) (H' : Hp), Same H H' → H' d = some (.dK kvs) → Cd m kvs (wkC (sh rs) ws (ws.length - 1)).2 → Q (.ref d) H') :
    t_walk_costs K { nx := fun _ H' => Q .non H', rt := Q } (L2.start ["lengths", "plan", "costs", "paid", "k", "place"] [.ref ld, .ref pl]) H := by
  unfold t_walk_costs
  have m1 := G.m1
  have m60 := G.m60
  have wpos : 0 < ws.length := (List.getElem?_eq_some_iff.mp W.first).1
  simp only [t_walk_costs_0_eq, t_walk_costs_1_eq, tDSetD, tDGet, tDNewK, rLenD, iEnum, tComp_eq, capS, tNoTest, rAppend, Option.bind_some, Option.bind_none, Option.join_some, Option.map_some, List.getElem?_cons_zero, List.getElem?_cons_succ, V.str.injEq, V.ty.injEq, tFor_eq, iRng1, tSeq, tNext, tAsg, gName, gTup, gCons, gNil, tCB, tCons, tNil, tVar, tC, tOp, tTest, tB, tNot, tIf, tIfS, tRet, tDrop, tTup, tCall, rI0, rEq, rIxL, L2.start, truV_int, truV_bl, scal_int, scal_bl, List.map_cons, List.map_nil, List.length_cons, List.length_nil, List.replicate, List.cons_append, List.nil_append, List.append_nil, Option.some.injEq, exists_eq_left', exists_eq_left, exists_and_left, List.cons.injEq, V.int.injEq, V.ref.injEq, V.bl.injEq, and_true, true_and, List.set_cons_zero, List.set_cons_succ, Nat.reduceAdd, Nat.reduceSub, Int.reduceToNat, Int.reducePow, Int.reduceNeg, Int.reduceMul, Int.reduceAdd, Int.reduceSub, decide_eq_true_eq, Bool.not_eq_true', decide_eq_false_iff_not, exists_const, and_assoc, exists_eq, exists_eq', if_true, if_false, Bool.false_eq_true, Bool.true_eq_false, reduceCtorEq, not_true_eq_false, not_false_eq_true]
  intro d hd
  have s0 := same_new hd (.dK [])
  refine ⟨⟨_, SqL.of (s0 _ _ hp)⟩, ?_⟩
  refine for_enumF (K := K) (xs := ws.map V.int) (fun i σ H' => Same H H' ∧ ∃ (kvs : List (Key × V)) (paid : Int), H' d = some (.dK kvs) ∧ ((i = 0 ∧ kvs = [] ∧ paid = 0) ∨ (0 < i ∧ Cd m kvs (wkC (sh rs) ws (i - 1)).2 ∧ paid = (wkC (sh rs) ws (i - 1)).1)) ∧ ∃ x y, σ = [some (.ref ld), some (.ref pl), some (.ref d), some (.int paid), x, y]) ⟨s0, [], 0, upd_same, .inl ⟨rfl, rfl, rfl⟩, _, _, rfl⟩ ?_ ?_ ?_
  · rintro i σ H' _ ⟨s, _⟩
    exact SqL.of (s _ _ hp)
  · rintro i t u σ H1 hx ⟨s1, kvs, paid, h1, hC, x, y, rfl⟩ hu
    obtain ⟨b, eb, rfl⟩ := map_at hx
    have li := (List.getElem?_eq_some_iff.mp eb).1
    have nu : d ≠ u := ne_of_none h1 hu
    simp only [t_walk_costs_0_eq, t_walk_costs_1_eq, tDSetD, tDGet, tDNewK, rLenD, iEnum, tComp_eq, capS, tNoTest, rAppend, Option.bind_some, Option.bind_none, Option.join_some, Option.map_some, List.getElem?_cons_zero, List.getElem?_cons_succ, V.str.injEq, V.ty.injEq, tFor_eq, iRng1, tSeq, tNext, tAsg, gName, gTup, gCons, gNil, tCB, tCons, tNil, tVar, tC, tOp, tTest, tB, tNot, tIf, tIfS, tRet, tDrop, tTup, tCall, rI0, rEq, rIxL, L2.start, truV_int, truV_bl, scal_int, scal_bl, List.map_cons, List.map_nil, List.length_cons, List.length_nil, List.replicate, List.cons_append, List.nil_append, List.append_nil, Option.some.injEq, exists_eq_left', exists_eq_left, exists_and_left, List.cons.injEq, V.int.injEq, V.ref.injEq, V.bl.injEq, and_true, true_and, List.set_cons_zero, List.set_cons_succ, Nat.reduceAdd, Nat.reduceSub, Int.reduceToNat, Int.reducePow, Int.reduceNeg, Int.reduceMul, Int.reduceAdd, Int.reduceSub, decide_eq_true_eq, Bool.not_eq_true', decide_eq_false_iff_not, exists_const, and_assoc, exists_eq, exists_eq', if_true, if_false, Bool.false_eq_true, Bool.true_eq_false, reduceCtorEq, not_true_eq_false, not_false_eq_true]
    refine ⟨_, SqT.of upd_same, rfl, _, _, rfl, _, _, rfl, rfl, ?_⟩
    have s2 := same_new hu (.tup [.int (i : Int), .int b])
    have h2 : (L2.upd H1 u (.tup [.int (i : Int), .int b])) u = some (.tup [.int (i : Int), .int b]) := upd_same
    generalize L2.upd H1 u (.tup [.int (i : Int), .int b]) = H2 at s2 h2 ⊢
    refine ⟨fun σ H' => Same H2 H' ∧ σ = [some (.ref ld), some (.ref pl), some (.ref d), some (.int paid), some (.int (i : Int)), some (.int b)], ?_, ?_⟩
    · simp only [t_walk_costs_0_eq, t_walk_costs_1_eq, tDSetD, tDGet, tDNewK, rLenD, iEnum, tComp_eq, capS, tNoTest, rAppend, Option.bind_some, Option.bind_none, Option.join_some, Option.map_some, List.getElem?_cons_zero, List.getElem?_cons_succ, V.str.injEq, V.ty.injEq, tFor_eq, iRng1, tSeq, tNext, tAsg, gName, gTup, gCons, gNil, tCB, tCons, tNil, tVar, tC, tOp, tTest, tB, tNot, tIf, tIfS, tRet, tDrop, tTup, tCall, rI0, rEq, rIxL, L2.start, truV_int, truV_bl, scal_int, scal_bl, List.map_cons, List.map_nil, List.length_cons, List.length_nil, List.replicate, List.cons_append, List.nil_append, List.append_nil, Option.some.injEq, exists_eq_left', exists_eq_left, exists_and_left, List.cons.injEq, V.int.injEq, V.ref.injEq, V.bl.injEq, and_true, true_and, List.set_cons_zero, List.set_cons_succ, Nat.reduceAdd, Nat.reduceSub, Int.reduceToNat, Int.reducePow, Int.reduceNeg, Int.reduceMul, Int.reduceAdd, Int.reduceSub, decide_eq_true_eq, Bool.not_eq_true', decide_eq_false_iff_not, exists_const, and_assoc, exists_eq, exists_eq', if_true, if_false, Bool.false_eq_true, Bool.true_eq_false, reduceCtorEq, not_true_eq_false, not_false_eq_true]
      refine ⟨ld, pl, lk, rs, ws, i, rfl, s2 _ _ (s1 _ _ hl), L, s2 _ _ (s1 _ _ hp), li, W.first, W.ok, fun H3 s3 => ?_⟩
      exact ⟨true, rfl, ite2 (fun z => absurd z (by decide)) (fun _ => s3)⟩
    · rintro σ H3 ⟨s3, rfl⟩
      simp only [t_walk_costs_0_eq, t_walk_costs_1_eq, tDSetD, tDGet, tDNewK, rLenD, iEnum, tComp_eq, capS, tNoTest, rAppend, Option.bind_some, Option.bind_none, Option.join_some, Option.map_some, List.getElem?_cons_zero, List.getElem?_cons_succ, V.str.injEq, V.ty.injEq, tFor_eq, iRng1, tSeq, tNext, tAsg, gName, gTup, gCons, gNil, tCB, tCons, tNil, tVar, tC, tOp, tTest, tB, tNot, tIf, tIfS, tRet, tDrop, tTup, tCall, rI0, rEq, rIxL, L2.start, truV_int, truV_bl, scal_int, scal_bl, List.map_cons, List.map_nil, List.length_cons, List.length_nil, List.replicate, List.cons_append, List.nil_append, List.append_nil, Option.some.injEq, exists_eq_left', exists_eq_left, exists_and_left, List.cons.injEq, V.int.injEq, V.ref.injEq, V.bl.injEq, and_true, true_and, List.set_cons_zero, List.set_cons_succ, Nat.reduceAdd, Nat.reduceSub, Int.reduceToNat, Int.reducePow, Int.reduceNeg, Int.reduceMul, Int.reduceAdd, Int.reduceSub, decide_eq_true_eq, Bool.not_eq_true', decide_eq_false_iff_not, exists_const, and_assoc, exists_eq, exists_eq', if_true, if_false, Bool.false_eq_true, Bool.true_eq_false, reduceCtorEq, not_true_eq_false, not_false_eq_true]
      have s13 := s2.trans s3
      refine ⟨fun σ H' => Same H3 H' ∧ ∃ paid', ((i = 0 ∧ paid' = 0) ∨ (0 < i ∧ paid' = (stC (sh rs) (wkC (sh rs) ws (i - 1)) (ws.getD (i - 1) 0) b).1)) ∧ σ = [some (.ref ld), some (.ref pl), some (.ref d), some (.int paid'), some (.int (i : Int)), some (.int b)], ?_, ?_⟩
      · simp only [t_walk_costs_0_eq, t_walk_costs_1_eq, tDSetD, tDGet, tDNewK, rLenD, iEnum, tComp_eq, capS, tNoTest, rAppend, Option.bind_some, Option.bind_none, Option.join_some, Option.map_some, List.getElem?_cons_zero, List.getElem?_cons_succ, V.str.injEq, V.ty.injEq, tFor_eq, iRng1, tSeq, tNext, tAsg, gName, gTup, gCons, gNil, tCB, tCons, tNil, tVar, tC, tOp, tTest, tB, tNot, tIf, tIfS, tRet, tDrop, tTup, tCall, rI0, rEq, rIxL, L2.start, truV_int, truV_bl, scal_int, scal_bl, List.map_cons, List.map_nil, List.length_cons, List.length_nil, List.replicate, List.cons_append, List.nil_append, List.append_nil, Option.some.injEq, exists_eq_left', exists_eq_left, exists_and_left, List.cons.injEq, V.int.injEq, V.ref.injEq, V.bl.injEq, and_true, true_and, List.set_cons_zero, List.set_cons_succ, Nat.reduceAdd, Nat.reduceSub, Int.reduceToNat, Int.reducePow, Int.reduceNeg, Int.reduceMul, Int.reduceAdd, Int.reduceSub, decide_eq_true_eq, Bool.not_eq_true', decide_eq_false_iff_not, exists_const, and_assoc, exists_eq, exists_eq', if_true, if_false, Bool.false_eq_true, Bool.true_eq_false, reduceCtorEq, not_true_eq_false, not_false_eq_true]
        refine ite2 (fun c => ?_) (fun c => ?_)
        · obtain ⟨j, rfl⟩ : ∃ j, i = j + 1 := ⟨i - 1, by omega⟩
          have ej : ws[j]? = some ws[j] := List.getElem?_eq_getElem (by omega)
          have ij : atI (ws.map V.int) (((j + 1 : Nat) : Int) - 1) = some (.int ws[j]) := by
            rw [show ((j + 1 : Nat) : Int) - 1 = (j : Int) by omega]
            exact atI_nat (by rw [List.getElem?_map, ej]; rfl)
          refine ⟨_, SqL.of (s13 _ _ (s1 _ _ hp)), _, ij, by decide, fun v hv => ?_⟩
          obtain ⟨l, hl3⟩ := Option.ne_none_iff_exists'.mp (W.ok j _ _ ej eb)
          have gj : ws.getD j 0 = ws[j] := by rw [List.getD_eq_getElem?_getD, ej]; rfl
          have hv1 := same_new hv (.tup [.int ws[j], .int b])
          have hv2 : (L2.upd H3 v (.tup [.int ws[j], .int b])) v = some (.tup (([.inl ws[j], .inl b] : List Key).map kV)) := upd_same
          have hg := DGet.t (hv1 _ _ (s13 _ _ (s1 _ _ hl))) hv2
          rw [L.val, hl3] at hg
          rcases hC with ⟨z, _⟩ | ⟨_, C, ep⟩
          · omega
          refine ⟨_, hg, l, rfl, hv1, _, .inr ⟨by omega, rfl⟩, ?_⟩
          rw [ep, Nat.add_sub_cancel, gj]
          unfold stC
          simp only
          rw [hl3]
          rfl
        · have : i = 0 := by omega
          subst this
          rcases hC with ⟨_, _, rfl⟩ | ⟨z, _⟩
          · exact ⟨.refl _, 0, .inl ⟨rfl, rfl⟩, rfl⟩
          · omega
      · rintro σ H4 ⟨s4, paid', hp', rfl⟩
        simp only [t_walk_costs_0_eq, t_walk_costs_1_eq, tDSetD, tDGet, tDNewK, rLenD, iEnum, tComp_eq, capS, tNoTest, rAppend, Option.bind_some, Option.bind_none, Option.join_some, Option.map_some, List.getElem?_cons_zero, List.getElem?_cons_succ, V.str.injEq, V.ty.injEq, tFor_eq, iRng1, tSeq, tNext, tAsg, gName, gTup, gCons, gNil, tCB, tCons, tNil, tVar, tC, tOp, tTest, tB, tNot, tIf, tIfS, tRet, tDrop, tTup, tCall, rI0, rEq, rIxL, L2.start, truV_int, truV_bl, scal_int, scal_bl, List.map_cons, List.map_nil, List.length_cons, List.length_nil, List.replicate, List.cons_append, List.nil_append, List.append_nil, Option.some.injEq, exists_eq_left', exists_eq_left, exists_and_left, List.cons.injEq, V.int.injEq, V.ref.injEq, V.bl.injEq, and_true, true_and, List.set_cons_zero, List.set_cons_succ, Nat.reduceAdd, Nat.reduceSub, Int.reduceToNat, Int.reducePow, Int.reduceNeg, Int.reduceMul, Int.reduceAdd, Int.reduceSub, decide_eq_true_eq, Bool.not_eq_true', decide_eq_false_iff_not, exists_const, and_assoc, exists_eq, exists_eq', if_true, if_false, Bool.false_eq_true, Bool.true_eq_false, reduceCtorEq, not_true_eq_false, not_false_eq_true]
        have s14 := s13.trans s4
        have h4 := s14 _ _ h1
        have big : (1000 : Nat) < sizeLine := by decide
        refine ⟨.inl ⟨kvs, .inl h4⟩, kvs, h4, .inl b, rfl, ?_⟩
        rcases hC with ⟨rfl, rfl, _⟩ | ⟨i0, C, _⟩
        · have b0 : b = 0 := by
            have := W.first
            rw [eb] at this
            exact Option.some.inj this
          subst b0
          rcases hp' with ⟨_, rfl⟩ | ⟨z, _⟩
          · refine ⟨(by show 0 < sizeLine; decide), (fun v hv => nomatch hv), fun _ => ?_⟩
            exact ⟨(s1.trans s14).put hd, _, upd_same, _, .inr ⟨by omega, Cd.zero m1, rfl⟩, rfl⟩
          · omega
        · rcases hp' with ⟨z, _⟩ | ⟨_, rfl⟩
          · omega
          obtain ⟨j, rfl⟩ : ∃ j, i = j + 1 := ⟨i - 1, by omega⟩
          rw [Nat.add_sub_cancel] at C
          have gb : ws.getD (j + 1) 0 = b := by rw [List.getD_eq_getElem?_getD, eb]; rfl
          have est : wkC (sh rs) ws (j + 1) = stC (sh rs) (wkC (sh rs) ws j) (ws.getD j 0) b := by rw [wkC_succ, gb]
          have ej : ws[j]? = some ws[j] := List.getElem?_eq_getElem (by omega)
          obtain ⟨l, hl3⟩ := Option.ne_none_iff_exists'.mp (W.ok j _ _ ej eb)
          obtain ⟨_, _, b0, b1, _⟩ := sh_mem rs G.gr _ _ _ hl3
          have hle := C.le (by omega)
          refine ⟨by omega, fun v hv => ?_, fun hv => ?_⟩
          · have hn : (wkC (sh rs) ws j).2 b ≠ none := fun z => by
              rw [C.val, z] at hv
              cases hv
            refine ⟨s1.trans s14, kvs, h4, _, .inr ⟨by omega, ?_, rfl⟩, ?_⟩
            · rw [Nat.add_sub_cancel, est, stC_keep hn]
              exact C
            · rw [Nat.add_sub_cancel, Nat.add_sub_cancel, est]
          · have hn : (wkC (sh rs) ws j).2 b = none := by
              rw [C.val] at hv
              exact Option.map_eq_none_iff.mp hv
            refine ⟨(s1.trans s14).put hd, _, upd_same, _, .inr ⟨by omega, ?_, rfl⟩, ?_⟩
            · rw [Nat.add_sub_cancel, Nat.add_sub_cancel, est]
              exact C.put b0 b1 hn
            · rw [Nat.add_sub_cancel, Nat.add_sub_cancel, est]
  · rintro σ H1 ⟨s1, kvs, paid, h1, hC, x, y, rfl⟩
    simp only [t_walk_costs_0_eq, t_walk_costs_1_eq, tDSetD, tDGet, tDNewK, rLenD, iEnum, tComp_eq, capS, tNoTest, rAppend, Option.bind_some, Option.bind_none, Option.join_some, Option.map_some, List.getElem?_cons_zero, List.getElem?_cons_succ, V.str.injEq, V.ty.injEq, tFor_eq, iRng1, tSeq, tNext, tAsg, gName, gTup, gCons, gNil, tCB, tCons, tNil, tVar, tC, tOp, tTest, tB, tNot, tIf, tIfS, tRet, tDrop, tTup, tCall, rI0, rEq, rIxL, L2.start, truV_int, truV_bl, scal_int, scal_bl, List.map_cons, List.map_nil, List.length_cons, List.length_nil, List.replicate, List.cons_append, List.nil_append, List.append_nil, Option.some.injEq, exists_eq_left', exists_eq_left, exists_and_left, List.cons.injEq, V.int.injEq, V.ref.injEq, V.bl.injEq, and_true, true_and, List.set_cons_zero, List.set_cons_succ, Nat.reduceAdd, Nat.reduceSub, Int.reduceToNat, Int.reducePow, Int.reduceNeg, Int.reduceMul, Int.reduceAdd, Int.reduceSub, decide_eq_true_eq, Bool.not_eq_true', decide_eq_false_iff_not, exists_const, and_assoc, exists_eq, exists_eq', if_true, if_false, Bool.false_eq_true, Bool.true_eq_false, reduceCtorEq, not_true_eq_false, not_false_eq_true]
    rw [List.length_map] at hC
    rcases hC with ⟨z, _⟩ | ⟨_, C, _⟩
    · omega
    · exact q d kvs H1 s1 h1 C
theorem sc_walk_costs : FnScope ["lengths", "plan", "costs", "paid", "k", "place"] ["lengths", "plan"] (defScope s_walk_costs) := ⟨rfl, rfl, rfl, by decide +kernel, rfl, by decide +kernel, by decide +kernel⟩
theorem ok_walk_costs (T : Txt K mg a) : FnOk P w K mg base CX0 3 a.f_walk_costs a.d_walk_costs ["lengths", "plan"] spWalkCosts := by
  have G_is_walk_step := ok_is_walk_step (P := P) (w := w) (base := base) T
  refine T.F_walk_costs.ok sc_walk_costs (fun vs H Q E h => ?_) (fun cdv A outer s H vs Q E hr h => ?_)
  · obtain ⟨ld, pl, lk, rs, m, ws, rfl, hl, L, G, hp, W, q⟩ := h
    rfl
  obtain ⟨ld, pl, lk, rs, m, ws, rfl, hl, L, G, hp, W, q⟩ := h
  exact ⟨t_walk_costs K, (pss_cons (ps_set (i := 2) sc_walk_costs.nd rfl (Or.inl rfl) pe_dnewK)
  (pss_cons (ps_set (i := 3) sc_walk_costs.nd rfl (Or.inl rfl) pe_int)
  (pss_cons (ps_for PassesOwn.never rfl (pi_enum rfl T.z_enumerate (pa_cons (pv 1) pa_nil)) (pg_tup rfl (pgs_cons (pg_name (i := 4) sc_walk_costs.nd rfl (Or.inl rfl)) (pgs_cons (pg_name (i := 5) sc_walk_costs.nd rfl (Or.inl rfl)) pgs_nil)))
  (pss_cons (ps_cut (ps_if (pt_not (pt_val (pe_call G_is_walk_step (hr.mono (by decide)) rfl T.m_is_walk_step T.F_is_walk_step.kp T.b_is_walk_step .nil pass0 (pa_cons (pv 0) (pa_cons (pv 1) (pa_cons (pv 4) pa_nil)))))) (pss_one ps_never) pss_nil))
  (pss_cons (ps_cut (ps_if (pt_cmpR op_gt (pv 4) pe_int (nomark _)) (pss_one (ps_set (i := 3) sc_walk_costs.nd rfl (Or.inl rfl) (pe_op op_add (pv 3) (pe_dget (hu_of hr) (pv 0) (pe_tup (pa_cons (pe_ix ix_list (pv 1) (pe_op op_sub (pv 4) pe_int) (fun _ _ => rfl)) (pa_cons (pv 5) pa_nil))) (fun _ _ => rfl))))) pss_nil))
  (pss_one (ps_expr (pe_dsetd (hu_of hr) (pv 2) (pv 5) (pv 3) ⟨rfl, rfl, rfl, rfl⟩))))))
  (pss_one (ps_ret (pv 2)))))),
    rd_walk_costs hl L G hp W q⟩

/-- a whole plan of a kind, and what it pays -/
def PlanC (H : Hp) (rs : List Road) (m : Int) (kd : Str) (pl : Addr) (c : Ct) : Prop :=
  (kd = "walk" ∧ ∃ ws : List Int, H pl = some (.lst (ws.map V.int)) ∧ Wlk (sh rs) m ws ∧ c = (wkC (sh rs) ws (ws.length - 1)).2) ∨
  (kd = "spread" ∧ ∃ (us : List Addr) (ps : List (Int × Int)), H pl = some (.lst (us.map V.ref)) ∧ Tps prv H us ps ∧ Spr (sh rs) m ps ∧ c = (spC (sh rs) ps).2)
theorem PlanC.same {H H' : Hp} {rs : List Road} {m : Int} {kd : Str} {pl : Addr} {c : Ct} (h : PlanC H rs m kd pl c) (s : Same H H') : PlanC H' rs m kd pl c := by
  rcases h with ⟨e, ws, h1, h2⟩ | ⟨e, us, ps, h1, h2, h3⟩
  · exact .inl ⟨e, ws, s _ _ h1, h2⟩
  · exact .inr ⟨e, us, ps, s _ _ h1, h2.same s, h3⟩
theorem PlanC.isL {H : Hp} {rs : List Road} {m : Int} {kd : Str} {pl : Addr} {c : Ct} (h : PlanC H rs m kd pl c) : ∃ xs, H pl = some (.lst xs) := by
  rcases h with ⟨e, ws, h1, h2⟩ | ⟨e, us, ps, h1, h2, h3⟩
  · exact ⟨_, h1⟩
  · exact ⟨_, h1⟩
theorem PlanC.kind {H : Hp} {rs : List Road} {m : Int} {kd : Str} {pl : Addr} {c : Ct} (h : PlanC H rs m kd pl c) : kd = "walk" ∨ kd = "spread" := h.imp And.left And.left
theorem PlanC.all {H : Hp} {rs : List Road} {m : Int} {kd : Str} {pl : Addr} {c : Ct} (h : PlanC H rs m kd pl c) : ∀ x, 0 ≤ x → x < m → c x ≠ none := by
  rcases h with ⟨e, ws, h1, h2, rfl⟩ | ⟨e, us, ps, h1, h2, h3, rfl⟩
  · intro x x0 x1
    have wpos : 0 < ws.length := (List.getElem?_eq_some_iff.mp h2.first).1
    obtain ⟨j, hj⟩ := List.getElem?_of_mem (h2.all x x0 x1)
    have lj := (List.getElem?_eq_some_iff.mp hj).1
    exact (wkC_dom h2.first _ (by omega) x).mpr ⟨j, by omega, hj⟩
  · exact h3.all
def spWholeCosts : Sp := fun vs H Q _ => ∃ (ld pl : Addr) (lk : List (List Key × V)) (rs : List Road) (m : Int) (kd : Str) (c : Ct), vs = [.int m, .ref ld, .str kd, .ref pl] ∧ H ld = some (.dT lk) ∧ Lens lk rs ∧ GW m rs ∧ PlanC H rs m kd pl c ∧ ∀ (r : Addr) (H' : Hp), Same H H' → H r = none → H' r = some (.lst ((costL m c).map V.int)) → Q (.ref r) H'
def t_whole_costs_0 : TS :=
  (tSeq (tAsg (tIf (tTest (tOp rEq (tVar 2) (tC (.str "walk")))) (tCall spWalkCosts [] E0 (tCons (tVar 1) (tCons (tVar 3) tNil))) (tCall spSpreadCosts [] E0 (tCons (tVar 1) (tCons (tVar 3) tNil)))) (gName 4))
  (tSeq (tCut (tIfS (tTest (tOp (rI0 fun i j => .bl (decide (i < j))) (tCB rLenD (tCons (tVar 4) tNil)) (tVar 0))) tNever tNext))
  (tRet (tComp (iRng1 (tCons (tVar 0) tNil)) (gName 0) tNoTest (tDGet (tVar 1) (tVar 0)) [none, some 4]))))
theorem t_whole_costs_0_eq (D : Ends) (σ : St) (H : Hp) : t_whole_costs_0 D σ H = (tSeq (tAsg (tIf (tTest (tOp rEq (tVar 2) (tC (.str "walk")))) (tCall spWalkCosts [] E0 (tCons (tVar 1) (tCons (tVar 3) tNil))) (tCall spSpreadCosts [] E0 (tCons (tVar 1) (tCons (tVar 3) tNil)))) (gName 4))
  (tSeq (tCut (tIfS (tTest (tOp (rI0 fun i j => .bl (decide (i < j))) (tCB rLenD (tCons (tVar 4) tNil)) (tVar 0))) tNever tNext))
  (tRet (tComp (iRng1 (tCons (tVar 0) tNil)) (gName 0) tNoTest (tDGet (tVar 1) (tVar 0)) [none, some 4])))) D σ H := rfl
def t_whole_costs (K : PySem.W.Frag) : TS :=
  (tSeq (tCut (tIfS (tNot (tB (tCB (rIsi K) (tCons (tVar 3) (tCons (tC (.ty "list")) tNil))))) tNever tNext))
  (t_whole_costs_0))
theorem rd_whole_costs {ld pl : Addr} {lk : List (List Key × V)} {rs : List Road} {m : Int} {kd : Str} {c : Ct} (hl : H ld = some (.dT lk)) (L : Lens lk rs) (G : GW m rs) (hP : PlanC H rs m kd pl c) (q : ∀ (r : Addr) (H' : Hp), Same H H' → H r = none → H' r = some (.lst ((costL m c).map V.int)) → Q (.ref r) H') :
    t_whole_costs K { nx := fun _ H' => Q .non H', rt := Q } (L2.start ["many", "lengths", "kind", "plan", "costs"] [.int m, .ref ld, .str kd, .ref pl]) H := by
  unfold t_whole_costs
  have m1 := G.m1
  have m60 := G.m60
  obtain ⟨xs, hpl⟩ := hP.isL
  have hall := hP.all
  simp only [t_whole_costs_0_eq, tDGet, rLenD, tComp_eq, capS, tNoTest, rAppend, Option.bind_some, Option.bind_none, Option.join_some, Option.map_some, List.getElem?_cons_zero, List.getElem?_cons_succ, V.str.injEq, V.ty.injEq, tFor_eq, iRng1, tSeq, tNext, tAsg, gName, tCB, tCons, tNil, tVar, tC, tOp, tTest, tB, tNot, tIf, tIfS, tRet, tDrop, tCall, rI0, rEq, rIxT, L2.start, truV_int, truV_bl, scal_int, scal_bl, List.map_cons, List.map_nil, List.length_cons, List.length_nil, List.replicate, List.cons_append, List.nil_append, List.append_nil, Option.some.injEq, exists_eq_left', exists_eq_left, exists_and_left, List.cons.injEq, V.int.injEq, V.ref.injEq, V.bl.injEq, and_true, true_and, List.set_cons_zero, List.set_cons_succ, Nat.reduceAdd, Nat.reduceSub, Int.reduceToNat, Int.reducePow, Int.reduceNeg, Int.reduceMul, Int.reduceAdd, Int.reduceSub, decide_eq_true_eq, Bool.not_eq_true', decide_eq_false_iff_not, exists_const, and_assoc, exists_eq, exists_eq', if_true, if_false, Bool.false_eq_true, Bool.true_eq_false, reduceCtorEq, not_true_eq_false, not_false_eq_true]
  refine ⟨fun σ H' => H' = H ∧ σ = [some (.int m), some (.ref ld), some (.str kd), some (.ref pl), none], ?_, ?_⟩
  · simp only [t_whole_costs_0_eq, tDGet, rLenD, tComp_eq, capS, tNoTest, rAppend, Option.bind_some, Option.bind_none, Option.join_some, Option.map_some, List.getElem?_cons_zero, List.getElem?_cons_succ, V.str.injEq, V.ty.injEq, tFor_eq, iRng1, tSeq, tNext, tAsg, gName, tCB, tCons, tNil, tVar, tC, tOp, tTest, tB, tNot, tIf, tIfS, tRet, tDrop, tCall, rI0, rEq, rIxT, L2.start, truV_int, truV_bl, scal_int, scal_bl, List.map_cons, List.map_nil, List.length_cons, List.length_nil, List.replicate, List.cons_append, List.nil_append, List.append_nil, Option.some.injEq, exists_eq_left', exists_eq_left, exists_and_left, List.cons.injEq, V.int.injEq, V.ref.injEq, V.bl.injEq, and_true, true_and, List.set_cons_zero, List.set_cons_succ, Nat.reduceAdd, Nat.reduceSub, Int.reduceToNat, Int.reducePow, Int.reduceNeg, Int.reduceMul, Int.reduceAdd, Int.reduceSub, decide_eq_true_eq, Bool.not_eq_true', decide_eq_false_iff_not, exists_const, and_assoc, exists_eq, exists_eq', if_true, if_false, Bool.false_eq_true, Bool.true_eq_false, reduceCtorEq, not_true_eq_false, not_false_eq_true]
    refine isi_lst_lst hpl ⟨true, rfl, ?_⟩
    exact ite2 (fun z => absurd z (by decide)) (fun _ => rfl)
  · rintro σ H' ⟨e, rfl⟩
    rw [e]
    simp only [t_whole_costs_0_eq, tDGet, rLenD, tComp_eq, capS, tNoTest, rAppend, Option.bind_some, Option.bind_none, Option.join_some, Option.map_some, List.getElem?_cons_zero, List.getElem?_cons_succ, V.str.injEq, V.ty.injEq, tFor_eq, iRng1, tSeq, tNext, tAsg, gName, tCB, tCons, tNil, tVar, tC, tOp, tTest, tB, tNot, tIf, tIfS, tRet, tDrop, tCall, rI0, rEq, rIxT, L2.start, truV_int, truV_bl, scal_int, scal_bl, List.map_cons, List.map_nil, List.length_cons, List.length_nil, List.replicate, List.cons_append, List.nil_append, List.append_nil, Option.some.injEq, exists_eq_left', exists_eq_left, exists_and_left, List.cons.injEq, V.int.injEq, V.ref.injEq, V.bl.injEq, and_true, true_and, List.set_cons_zero, List.set_cons_succ, Nat.reduceAdd, Nat.reduceSub, Int.reduceToNat, Int.reducePow, Int.reduceNeg, Int.reduceMul, Int.reduceAdd, Int.reduceSub, decide_eq_true_eq, Bool.not_eq_true', decide_eq_false_iff_not, exists_const, and_assoc, exists_eq, exists_eq', if_true, if_false, Bool.false_eq_true, Bool.true_eq_false, reduceCtorEq, not_true_eq_false, not_false_eq_true]
    have fin : ∀ (d : Addr) (kvs : List (Key × V)) (H1 : Hp), Same H H1 → H1 d = some (.dK kvs) → Cd m kvs c → tCut (tIfS (tTest (tOp (rI0 fun i j => .bl (decide (i < j))) (tCB rLenD (tCons (tVar 4) tNil)) (tVar 0))) tNever tNext) { nx := tRet (tComp (iRng1 (tCons (tVar 0) tNil)) (gName 0) tNoTest (tDGet (tVar 1) (tVar 0)) [none, some 4]) { nx := fun x H' => Q V.non H', rt := Q }, rt := Q } [some (.int m), some (.ref ld), some (.str kd), some (.ref pl), some (.ref d)] H1 := by
      intro d kvs H1 s1 h1 C
      have hge := C.ge hall
      refine ⟨fun σ H' => H' = H1 ∧ σ = [some (.int m), some (.ref ld), some (.str kd), some (.ref pl), some (.ref d)], ?_, ?_⟩
      · simp only [t_whole_costs_0_eq, tDGet, rLenD, tComp_eq, capS, tNoTest, rAppend, Option.bind_some, Option.bind_none, Option.join_some, Option.map_some, List.getElem?_cons_zero, List.getElem?_cons_succ, V.str.injEq, V.ty.injEq, tFor_eq, iRng1, tSeq, tNext, tAsg, gName, tCB, tCons, tNil, tVar, tC, tOp, tTest, tB, tNot, tIf, tIfS, tRet, tDrop, tCall, rI0, rEq, rIxT, L2.start, truV_int, truV_bl, scal_int, scal_bl, List.map_cons, List.map_nil, List.length_cons, List.length_nil, List.replicate, List.cons_append, List.nil_append, List.append_nil, Option.some.injEq, exists_eq_left', exists_eq_left, exists_and_left, List.cons.injEq, V.int.injEq, V.ref.injEq, V.bl.injEq, and_true, true_and, List.set_cons_zero, List.set_cons_succ, Nat.reduceAdd, Nat.reduceSub, Int.reduceToNat, Int.reducePow, Int.reduceNeg, Int.reduceMul, Int.reduceAdd, Int.reduceSub, decide_eq_true_eq, Bool.not_eq_true', decide_eq_false_iff_not, exists_const, and_assoc, exists_eq, exists_eq', if_true, if_false, Bool.false_eq_true, Bool.true_eq_false, reduceCtorEq, not_true_eq_false, not_false_eq_true]
        exact ⟨_, h1, ite2 (fun z => absurd z (by omega)) (fun _ => by first | trivial | rfl)⟩
      · rintro σ H2 ⟨e, rfl⟩
        rw [e]
        simp only [t_whole_costs_0_eq, tDGet, rLenD, tComp_eq, capS, tNoTest, rAppend, Option.bind_some, Option.bind_none, Option.join_some, Option.map_some, List.getElem?_cons_zero, List.getElem?_cons_succ, V.str.injEq, V.ty.injEq, tFor_eq, iRng1, tSeq, tNext, tAsg, gName, tCB, tCons, tNil, tVar, tC, tOp, tTest, tB, tNot, tIf, tIfS, tRet, tDrop, tCall, rI0, rEq, rIxT, L2.start, truV_int, truV_bl, scal_int, scal_bl, List.map_cons, List.map_nil, List.length_cons, List.length_nil, List.replicate, List.cons_append, List.nil_append, List.append_nil, Option.some.injEq, exists_eq_left', exists_eq_left, exists_and_left, List.cons.injEq, V.int.injEq, V.ref.injEq, V.bl.injEq, and_true, true_and, List.set_cons_zero, List.set_cons_succ, Nat.reduceAdd, Nat.reduceSub, Int.reduceToNat, Int.reducePow, Int.reduceNeg, Int.reduceMul, Int.reduceAdd, Int.reduceSub, decide_eq_true_eq, Bool.not_eq_true', decide_eq_false_iff_not, exists_const, and_assoc, exists_eq, exists_eq', if_true, if_false, Bool.false_eq_true, Bool.true_eq_false, reduceCtorEq, not_true_eq_false, not_false_eq_true]
        refine ⟨by omega, by omega, fun r hr => ?_⟩
        refine comp_rangeF (fun i ys σ H' => Same H1 H' ∧ ys = ((List.range i).map fun k : Nat => (c (k : Int)).getD 0).map V.int ∧ ∃ k, σ = [k, some (.ref d)]) ⟨same_new hr _, rfl, _, rfl⟩ ?_ ?_
        · rintro i ys σ H3 hi hr3 ⟨s3, rfl, k, rfl⟩
          simp only [t_whole_costs_0_eq, tDGet, rLenD, tComp_eq, capS, tNoTest, rAppend, Option.bind_some, Option.bind_none, Option.join_some, Option.map_some, List.getElem?_cons_zero, List.getElem?_cons_succ, V.str.injEq, V.ty.injEq, tFor_eq, iRng1, tSeq, tNext, tAsg, gName, tCB, tCons, tNil, tVar, tC, tOp, tTest, tB, tNot, tIf, tIfS, tRet, tDrop, tCall, rI0, rEq, rIxT, L2.start, truV_int, truV_bl, scal_int, scal_bl, List.map_cons, List.map_nil, List.length_cons, List.length_nil, List.replicate, List.cons_append, List.nil_append, List.append_nil, Option.some.injEq, exists_eq_left', exists_eq_left, exists_and_left, List.cons.injEq, V.int.injEq, V.ref.injEq, V.bl.injEq, and_true, true_and, List.set_cons_zero, List.set_cons_succ, Nat.reduceAdd, Nat.reduceSub, Int.reduceToNat, Int.reducePow, Int.reduceNeg, Int.reduceMul, Int.reduceAdd, Int.reduceSub, decide_eq_true_eq, Bool.not_eq_true', decide_eq_false_iff_not, exists_const, and_assoc, exists_eq, exists_eq', if_true, if_false, Bool.false_eq_true, Bool.true_eq_false, reduceCtorEq, not_true_eq_false, not_false_eq_true]
          obtain ⟨v, hv⟩ := Option.ne_none_iff_exists'.mp (hall (i : Int) (by omega) (by omega))
          have hg := DGet.k (k := .inl (i : Int)) (s3 _ _ h1)
          rw [C.val, hv] at hg
          refine ⟨.int v, by rw [Int.zero_add]; exact hg, _, hr3, small1000 (by rw [List.length_map, List.length_map, List.length_range]; omega), _, upd_same, s3.put hr, ?_⟩
          rw [List.range_succ, List.map_append, List.map_append]
          simp only [List.map_cons, List.map_nil, hv]
          rfl
        · rintro ys σ H3 hr3 ⟨s3, rfl, k, rfl⟩
          exact q r H3 (s1.trans s3) (s1.free hr) hr3
    rcases hP with ⟨rfl, ws, h1, h2, rfl⟩ | ⟨rfl, us, ps, h1, h2, h3, rfl⟩
    · refine ⟨rfl, ite2 (fun _ => ?_) (fun z => absurd (by first | trivial | rfl) z)⟩
      exact ⟨ld, pl, lk, rs, m, ws, rfl, hl, L, G, h1, h2, fun d kvs H1 s1 h1 C => fin d kvs H1 s1 h1 C⟩
    · refine ⟨rfl, ite2 (fun z => absurd z (by decide +kernel)) (fun _ => ?_)⟩
      exact ⟨ld, pl, lk, rs, m, us, ps, rfl, hl, L, G, h1, h2, h3, fun d kvs H1 s1 h1 C => fin d kvs H1 s1 h1 C⟩
theorem sc_whole_costs : FnScope ["many", "lengths", "kind", "plan", "costs"] ["many", "lengths", "kind", "plan"] (defScope s_whole_costs) := ⟨rfl, rfl, rfl, by decide +kernel, rfl, by decide +kernel, by decide +kernel⟩
theorem ok_whole_costs (T : Txt K mg a) : FnOk P w K mg base CX0 4 a.f_whole_costs a.d_whole_costs ["many", "lengths", "kind", "plan"] spWholeCosts := by
  have G_spread_costs := ok_spread_costs (P := P) (w := w) (base := base) T
  have G_walk_costs := ok_walk_costs (P := P) (w := w) (base := base) T
  refine T.F_whole_costs.ok sc_whole_costs (fun vs H Q E h => ?_) (fun cdv A outer s H vs Q E hr h => ?_)
  · obtain ⟨ld, pl, lk, rs, m, kd, c, rfl, hl, L, G, hP, q⟩ := h
    rfl
  obtain ⟨ld, pl, lk, rs, m, kd, c, rfl, hl, L, G, hP, q⟩ := h
  exact ⟨t_whole_costs K, (pss_cons (ps_cut (ps_if (pt_not (pt_val (pe_callB call_isinst rfl T.z_isinstance PyProof.Rows.boot_isinstance (pa_cons (pv 3) (pa_cons (pe_bltn rfl T.z_list boot_list rfl) pa_nil))))) (pss_one ps_never) pss_nil))
  (pss_cons (ps_set (i := 4) sc_whole_costs.nd rfl (Or.inr rfl) (pe_ifExp (pt_cmpR op_eq (pv 2) pe_str (nomark _)) (pe_call G_walk_costs (hr.mono (by decide)) rfl T.m_walk_costs T.F_walk_costs.kp T.b_walk_costs .nil pass0 (pa_cons (pv 1) (pa_cons (pv 3) pa_nil))) (pe_call G_spread_costs (hr.mono (by decide)) rfl T.m_spread_costs T.F_spread_costs.kp T.b_spread_costs .nil pass0 (pa_cons (pv 1) (pa_cons (pv 3) pa_nil)))))
  (pss_cons (ps_cut (ps_if (pt_cmpR op_lt (pe_callB call_lenD rfl T.z_len PySem.boot_len (pa_cons (pv 4) pa_nil)) (pv 0) (nomark _)) (pss_one ps_never) pss_nil))
  (pss_one (ps_ret (pe_comp (sc := defScope s_whole_costs) (N := ["many", "lengths", "kind", "plan", "costs"]) (Nc := ["place", "costs"]) (cap := [none, some 4]) rfl rfl rfl (.of (by decide +kernel)) (pi_range1 rfl T.z_range (pa_cons (pv 0) pa_nil)) (fun _ _ _ _ => (pg_name (i := 0) (show List.Nodup (["place", "costs"] : List Str) from by decide) rfl (Or.inl rfl))) (fun _ _ _ _ => pts_nil) (fun _ _ _ _ => (pe_dget (hu_of hr) (pv 1) (pv 0) (fun _ _ => rfl))))))))),
    rd_whole_costs hl L G hP q⟩

def spCostsOf : Sp := fun vs H Q _ => ∃ (w rl pl : Addr) (ts : List Addr) (rs : List Road) (m : Int) (kd : Str) (c : Ct), vs = [.ref w, .str kd, .ref pl] ∧ WebH H w rl ts m rs ∧ GW m rs ∧ PlanC H rs m kd pl c ∧ ∀ (r : Addr) (H' : Hp), Same H H' → H r = none → H' r = some (.lst ((costL m c).map V.int)) → Q (.ref r) H'
def t_costs_of (K : PySem.W.Frag) : TS :=
  (tSeq (tDrop (tCall spLookWeb [] E0 (tCons (tVar 0) tNil)))
  (tSeq (tDrop (tCall spLookKind [] E0 (tCons (tVar 1) tNil)))
  (tRet (tCall spWholeCosts [] E0 (tCons (tOp (rIxT K) (tVar 0) (tC (.int 0))) (tCons (tCall spShort [] E0 (tCons (tVar 0) tNil)) (tCons (tVar 1) (tCons (tVar 2) tNil))))))))
theorem rd_costs_of {w rl pl : Addr} {ts : List Addr} {rs : List Road} {m : Int} {kd : Str} {c : Ct} (W : WebH H w rl ts m rs) (G : GW m rs) (hP : PlanC H rs m kd pl c) (q : ∀ (r : Addr) (H' : Hp), Same H H' → H r = none → H' r = some (.lst ((costL m c).map V.int)) → Q (.ref r) H') :
    t_costs_of K { nx := fun _ H' => Q .non H', rt := Q } (L2.start ["web", "kind", "plan"] [.ref w, .str kd, .ref pl]) H := by
  unfold t_costs_of
  simp only [tComp_eq, capS, rAppend, Option.bind_some, Option.bind_none, Option.join_some, Option.map_some, List.getElem?_cons_zero, List.getElem?_cons_succ, V.str.injEq, V.ty.injEq, tFor_eq, iRng1, tSeq, tNext, tAsg, gName, tCB, tCons, tNil, tVar, tC, tOp, tTest, tAnd, tIfS, tRet, tDrop, tCall, rI, rI0, rIxL, rIxT, L2.start, truV_int, truV_bl, scal_int, scal_bl, List.map_cons, List.map_nil, List.length_cons, List.length_nil, List.replicate, List.cons_append, List.nil_append, List.append_nil, Option.some.injEq, exists_eq_left', exists_eq_left, exists_and_left, List.cons.injEq, V.int.injEq, V.ref.injEq, V.bl.injEq, and_true, true_and, List.set_cons_zero, List.set_cons_succ, Nat.reduceAdd, Nat.reduceSub, Int.reduceToNat, Int.reducePow, Int.reduceNeg, Int.reduceMul, Int.reduceAdd, Int.reduceSub, decide_eq_true_eq, Bool.not_eq_true', decide_eq_false_iff_not, exists_const, and_assoc, exists_eq, exists_eq', if_true, if_false, Bool.false_eq_true, Bool.true_eq_false, reduceCtorEq, not_true_eq_false, not_false_eq_true]
  refine ⟨w, rl, ts, m, rs, rfl, W, G, fun H1 s1 => ?_⟩
  refine ⟨kd, rfl, hP.kind, ?_⟩
  have W1 := W.same s1
  refine ⟨_, SqT.of W1.hw, _, rfl, ?_⟩
  refine ⟨w, rl, ts, m, rs, rfl, W1, G.l120, fun d kvs H2 s2 h2 hL _ => ?_⟩
  exact ⟨d, pl, kvs, rs, m, kd, c, rfl, h2, hL, G, (hP.same s1).same s2, fun r H3 s3 f3 h3 => q r H3 ((s1.trans s2).trans s3) ((s1.trans s2).free f3) h3⟩
theorem sc_costs_of : FnScope ["web", "kind", "plan"] ["web", "kind", "plan"] (defScope s_costs_of) := ⟨rfl, rfl, rfl, by decide +kernel, rfl, by decide +kernel, by decide +kernel⟩
theorem ok_costs_of (T : Txt K mg a) : FnOk P w K mg base CX0 5 a.f_costs_of a.d_costs_of ["web", "kind", "plan"] spCostsOf := by
  have G_look_kind := ok_look_kind (P := P) (w := w) (base := base) T
  have G_look_web := ok_look_web (P := P) (w := w) (base := base) T
  have G_shortest_roads := ok_shortest_roads (P := P) (w := w) (base := base) T
  have G_whole_costs := ok_whole_costs (P := P) (w := w) (base := base) T
  refine T.F_costs_of.ok sc_costs_of (fun vs H Q E h => ?_) (fun cdv A outer s H vs Q E hr h => ?_)
  · obtain ⟨w', rl, pl, ts, rs, m, kd, c, rfl, W, G, hP, q⟩ := h
    rfl
  obtain ⟨w', rl, pl, ts, rs, m, kd, c, rfl, W, G, hP, q⟩ := h
  exact ⟨t_costs_of K, (pss_cons (ps_expr (pe_call G_look_web (hr.mono (by decide)) rfl T.m_look_web T.F_look_web.kp T.b_look_web .nil pass0 (pa_cons (pv 0) pa_nil)))
  (pss_cons (ps_expr (pe_call G_look_kind (hr.mono (by decide)) rfl T.m_look_kind T.F_look_kind.kp T.b_look_kind .nil pass0 (pa_cons (pv 1) pa_nil)))
  (pss_one (ps_ret (pe_call G_whole_costs (hr.mono (by decide)) rfl T.m_whole_costs T.F_whole_costs.kp T.b_whole_costs .nil pass0 (pa_cons (pe_ix ix_tup (pv 0) pe_int (fun _ _ => rfl)) (pa_cons (pe_call G_shortest_roads (hr.mono (by decide)) rfl T.m_shortest_roads T.F_shortest_roads.kp T.b_shortest_roads .nil pass0 (pa_cons (pv 0) pa_nil)) (pa_cons (pv 1) (pa_cons (pv 2) pa_nil))))))))),
    rd_costs_of W G hP q⟩

def t__law_mixed_0 : TS :=
  (tSeq (tAsg (tOp (rI0 fun i j => .int (i + j)) (tOp (rI (fun _ j => 0 < j) fun i j => .int (i % j)) (tVar 3) (tOp (rI CPow fun i j => .int (i ^ j.toNat)) (tC (.int 10)) (tC (.int 18)))) (tOp (rI IntMulOk fun i j => .int (i * j)) (tC (.int 48271)) (tOp (rI0 fun i j => .int (i + j)) (tVar 1) (tC (.int 1))))) (gName 5))
  (tSeq (tAsg (tOp (rI0 fun i j => .int (i + j)) (tOp (rI (fun _ j => 0 < j) fun i j => .int (i % j)) (tOp (rI IntMulOk fun i j => .int (i * j)) (tVar 5) (tVar 5)) (tC (.int 2147483629))) (tOp (rI IntMulOk fun i j => .int (i * j)) (tC (.int 69621)) (tVar 1))) (gName 5))
  (tRet (tOp (rI (fun _ j => 0 < j) fun i j => .int (i % j)) (tOp (rI IntMulOk fun i j => .int (i * j)) (tVar 5) (tVar 5)) (tC (.int 2147483587))))))
theorem t__law_mixed_0_eq (D : Ends) (σ : St) (H : Hp) : t__law_mixed_0 D σ H = (tSeq (tAsg (tOp (rI0 fun i j => .int (i + j)) (tOp (rI (fun _ j => 0 < j) fun i j => .int (i % j)) (tVar 3) (tOp (rI CPow fun i j => .int (i ^ j.toNat)) (tC (.int 10)) (tC (.int 18)))) (tOp (rI IntMulOk fun i j => .int (i * j)) (tC (.int 48271)) (tOp (rI0 fun i j => .int (i + j)) (tVar 1) (tC (.int 1))))) (gName 5))
  (tSeq (tAsg (tOp (rI0 fun i j => .int (i + j)) (tOp (rI (fun _ j => 0 < j) fun i j => .int (i % j)) (tOp (rI IntMulOk fun i j => .int (i * j)) (tVar 5) (tVar 5)) (tC (.int 2147483629))) (tOp (rI IntMulOk fun i j => .int (i * j)) (tC (.int 69621)) (tVar 1))) (gName 5))
  (tRet (tOp (rI (fun _ j => 0 < j) fun i j => .int (i % j)) (tOp (rI IntMulOk fun i j => .int (i * j)) (tVar 5) (tVar 5)) (tC (.int 2147483587)))))) D σ H := rfl
def t__law_mixed_1 (K : PySem.W.Frag) : TS :=
  (tIfS (tTest (tOp (rI0 fun i j => .bl (decide (j < i))) (tCB (fun xs H Q => ∃ p ys, xs = [.ref p] ∧ (SqL K H p ys ∨ SqT K H p ys) ∧ Q (.int ys.length) H) (tCons (tVar 0) tNil)) (tC (.int 0)))) (tAsg (tOp (rIxL K) (tVar 0) (tOp (rI (fun _ j => 0 < j) fun i j => .int (i % j)) (tVar 1) (tCB (fun xs H Q => ∃ i j, xs = [.int i, .int j] ∧ Q (.int (if j < i then j else i)) H) (tCons (tC (.int 63)) (tCons (tCB (fun xs H Q => ∃ p ys, xs = [.ref p] ∧ (SqL K H p ys ∨ SqT K H p ys) ∧ Q (.int ys.length) H) (tCons (tVar 0) tNil)) tNil))))) (gName 3)) tNext)
theorem t__law_mixed_1_eq (K : PySem.W.Frag) (D : Ends) (σ : St) (H : Hp) : t__law_mixed_1 K D σ H = (tIfS (tTest (tOp (rI0 fun i j => .bl (decide (j < i))) (tCB (fun xs H Q => ∃ p ys, xs = [.ref p] ∧ (SqL K H p ys ∨ SqT K H p ys) ∧ Q (.int ys.length) H) (tCons (tVar 0) tNil)) (tC (.int 0)))) (tAsg (tOp (rIxL K) (tVar 0) (tOp (rI (fun _ j => 0 < j) fun i j => .int (i % j)) (tVar 1) (tCB (fun xs H Q => ∃ i j, xs = [.int i, .int j] ∧ Q (.int (if j < i then j else i)) H) (tCons (tC (.int 63)) (tCons (tCB (fun xs H Q => ∃ p ys, xs = [.ref p] ∧ (SqL K H p ys ∨ SqT K H p ys) ∧ Q (.int ys.length) H) (tCons (tVar 0) tNil)) tNil))))) (gName 3)) tNext) D σ H := rfl
def t__law_mixed_2 : TS :=
  (tIfS (tTest (tOp (rI0 fun i j => .bl (decide (j < i))) (tVar 3) (tC (.int 0)))) (tRet (tOp (rI (fun _ j => 0 < j) fun i j => .int (i % j)) (tVar 3) (tC (.int 2147483587)))) tNext)
theorem t__law_mixed_2_eq (D : Ends) (σ : St) (H : Hp) : t__law_mixed_2 D σ H = (tIfS (tTest (tOp (rI0 fun i j => .bl (decide (j < i))) (tVar 3) (tC (.int 0)))) (tRet (tOp (rI (fun _ j => 0 < j) fun i j => .int (i % j)) (tVar 3) (tC (.int 2147483587)))) tNext) D σ H := rfl
def t__law_mixed_3 (K : PySem.W.Frag) : TS :=
  (tIfS (tAnd (tTest (tOp (rI0 fun i j => .bl (decide (i < j))) (tVar 2) (tCB (fun xs H Q => ∃ p ys, xs = [.ref p] ∧ (SqL K H p ys ∨ SqT K H p ys) ∧ Q (.int ys.length) H) (tCons (tVar 0) tNil)))) (tTest (tOp (rI0 fun i j => .bl (decide (j ≤ i))) (tOp (rIxL K) (tVar 0) (tVar 2)) (tOp (rI CPow fun i j => .int (i ^ j.toNat)) (tC (.int 10)) (tC (.int 18)))))) (tSeq (tAsg (tOp (rI (fun _ j => 0 < j ∧ j.natAbs.log2 < 9000) fun i j => .int (i / j)) (tOp (rIxL K) (tVar 0) (tVar 2)) (tOp (rI CPow fun i j => .int (i ^ j.toNat)) (tC (.int 10)) (tC (.int 18)))) (gName 3))
  (tSeq (tFor (iRng1 (tCons (tOp (rI (fun _ j => 0 < j) fun i j => .int (i % j)) (tVar 1) (tC (.int 8))) tNil)) (gName 4)
  (tAsg (tOp (rI (fun _ j => 0 < j ∧ j.natAbs.log2 < 9000) fun i j => .int (i / j)) (tVar 3) (tC (.int 2147483587))) (gName 3)))
  (t__law_mixed_2))) tNext)
theorem t__law_mixed_3_eq (K : PySem.W.Frag) (D : Ends) (σ : St) (H : Hp) : t__law_mixed_3 K D σ H = (tIfS (tAnd (tTest (tOp (rI0 fun i j => .bl (decide (i < j))) (tVar 2) (tCB (fun xs H Q => ∃ p ys, xs = [.ref p] ∧ (SqL K H p ys ∨ SqT K H p ys) ∧ Q (.int ys.length) H) (tCons (tVar 0) tNil)))) (tTest (tOp (rI0 fun i j => .bl (decide (j ≤ i))) (tOp (rIxL K) (tVar 0) (tVar 2)) (tOp (rI CPow fun i j => .int (i ^ j.toNat)) (tC (.int 10)) (tC (.int 18)))))) (tSeq (tAsg (tOp (rI (fun _ j => 0 < j ∧ j.natAbs.log2 < 9000) fun i j => .int (i / j)) (tOp (rIxL K) (tVar 0) (tVar 2)) (tOp (rI CPow fun i j => .int (i ^ j.toNat)) (tC (.int 10)) (tC (.int 18)))) (gName 3))
  (tSeq (tFor (iRng1 (tCons (tOp (rI (fun _ j => 0 < j) fun i j => .int (i % j)) (tVar 1) (tC (.int 8))) tNil)) (gName 4)
  (tAsg (tOp (rI (fun _ j => 0 < j ∧ j.natAbs.log2 < 9000) fun i j => .int (i / j)) (tVar 3) (tC (.int 2147483587))) (gName 3)))
  (t__law_mixed_2))) tNext) D σ H := rfl
def t__law_mixed (K : PySem.W.Frag) : TS :=
  (tSeq (tAsg (tOp (rI (fun _ j => 0 < j) fun i j => .int (i % j)) (tOp (rI (fun _ j => 0 < j ∧ j.natAbs.log2 < 9000) fun i j => .int (i / j)) (tVar 1) (tC (.int 8))) (tC (.int 63))) (gName 2))
  (tSeq (tCut (t__law_mixed_3 K))
  (tSeq (tAsg (tC (.int 0)) (gName 3))
  (tSeq (tCut (t__law_mixed_1 K))
  (t__law_mixed_0)))))
theorem rd__law_mixed {p : Addr} {ns : List Int} {k : Int} (hS : SqL K H p (ns.map V.int)) (hl : ns.length ≤ 63) (k0 : 0 ≤ k) (k1 : k < 1000000) (q : ∀ r : Int, 0 ≤ r → r < 2147483587 → Q (.int r) H) :
    t__law_mixed K { nx := fun _ H' => Q .non H', rt := Q } (L2.start ["_law_script", "_law_k", "_law_at", "_law_cell", "_law_j", "_law_number"] [.ref p, .int k]) H := by
  unfold t__law_mixed
  simp only [t__law_mixed_0_eq, t__law_mixed_1_eq, t__law_mixed_2_eq, t__law_mixed_3_eq, V.str.injEq, V.ty.injEq, tFor_eq, iRng1, tSeq, tNext, tAsg, gName, tCB, tCons, tNil, tVar, tC, tOp, tTest, tAnd, tIfS, tRet, tLst, rI, rI0, rIxL, L2.start, truV_int, truV_bl, scal_int, scal_bl, List.map_cons, List.map_nil, List.length_cons, List.length_nil, List.replicate, List.cons_append, List.nil_append, List.append_nil, List.getElem?_cons_zero, List.getElem?_cons_succ, Option.some.injEq, exists_eq_left', exists_eq_left, exists_and_left, List.cons.injEq, V.int.injEq, V.ref.injEq, V.bl.injEq, and_true, true_and, List.set_cons_zero, List.set_cons_succ, Nat.reduceAdd, Nat.reduceSub, Int.reduceToNat, Int.reducePow, Int.reduceNeg, Int.reduceMul, Int.reduceAdd, Int.reduceSub, decide_eq_true_eq, Bool.not_eq_true', decide_eq_false_iff_not, exists_const, and_assoc, exists_eq, exists_eq', if_true, if_false, Bool.false_eq_true, Bool.true_eq_false, reduceCtorEq, not_true_eq_false, not_false_eq_true]
  have el : ((ns.map V.int).length : Int) = (ns.length : Int) := by rw [List.length_map]
  refine ⟨log8.1, log8.2, by decide, fun σ H' => H' = H ∧ ∃ t c j, σ = [some (.ref p), some (.int k), t, c, j, none], ?_, ?_⟩
  · simp only [t__law_mixed_0_eq, t__law_mixed_1_eq, t__law_mixed_2_eq, t__law_mixed_3_eq, V.str.injEq, V.ty.injEq, tFor_eq, iRng1, tSeq, tNext, tAsg, gName, tCB, tCons, tNil, tVar, tC, tOp, tTest, tAnd, tIfS, tRet, tLst, rI, rI0, rIxL, L2.start, truV_int, truV_bl, scal_int, scal_bl, List.map_cons, List.map_nil, List.length_cons, List.length_nil, List.replicate, List.cons_append, List.nil_append, List.append_nil, List.getElem?_cons_zero, List.getElem?_cons_succ, Option.some.injEq, exists_eq_left', exists_eq_left, exists_and_left, List.cons.injEq, V.int.injEq, V.ref.injEq, V.bl.injEq, and_true, true_and, List.set_cons_zero, List.set_cons_succ, Nat.reduceAdd, Nat.reduceSub, Int.reduceToNat, Int.reducePow, Int.reduceNeg, Int.reduceMul, Int.reduceAdd, Int.reduceSub, decide_eq_true_eq, Bool.not_eq_true', decide_eq_false_iff_not, exists_const, and_assoc, exists_eq, exists_eq', if_true, if_false, Bool.false_eq_true, Bool.true_eq_false, reduceCtorEq, not_true_eq_false, not_false_eq_true]
    refine ⟨_, .inl hS, ?_⟩
    rw [el]
    refine ite2 (fun c => ?_) (fun c => ?_)
    · obtain ⟨v, hv, _⟩ := at_int (ns := ns) (k := k / 8 % 63) (by omega) c
      refine ⟨_, hS, _, hv, ?_⟩
      simp only [t__law_mixed_0_eq, t__law_mixed_1_eq, t__law_mixed_2_eq, t__law_mixed_3_eq, V.str.injEq, V.ty.injEq, tFor_eq, iRng1, tSeq, tNext, tAsg, gName, tCB, tCons, tNil, tVar, tC, tOp, tTest, tAnd, tIfS, tRet, tLst, rI, rI0, rIxL, L2.start, truV_int, truV_bl, scal_int, scal_bl, List.map_cons, List.map_nil, List.length_cons, List.length_nil, List.replicate, List.cons_append, List.nil_append, List.append_nil, List.getElem?_cons_zero, List.getElem?_cons_succ, Option.some.injEq, exists_eq_left', exists_eq_left, exists_and_left, List.cons.injEq, V.int.injEq, V.ref.injEq, V.bl.injEq, and_true, true_and, List.set_cons_zero, List.set_cons_succ, Nat.reduceAdd, Nat.reduceSub, Int.reduceToNat, Int.reducePow, Int.reduceNeg, Int.reduceMul, Int.reduceAdd, Int.reduceSub, decide_eq_true_eq, Bool.not_eq_true', decide_eq_false_iff_not, exists_const, and_assoc, exists_eq, exists_eq', if_true, if_false, Bool.false_eq_true, Bool.true_eq_false, reduceCtorEq, not_true_eq_false, not_false_eq_true]
      refine ⟨pow18, ?_⟩
      refine ite2 (fun c2 => ?_) (fun c2 => trivial)
      · refine ⟨_, hS, _, hv, pow18, _, rfl, logA.1, logA.2, by decide, by omega, by omega, ?_⟩
        refine for_rangeF (fun _ σ H' => H' = H ∧ ∃ t c j, σ = [some (.ref p), some (.int k), t, some (.int c), j, none]) ⟨rfl, _, _, _, rfl⟩ ?_ ?_
        · rintro i σ H' hi ⟨rfl, t, c, j, rfl⟩
          simp only [t__law_mixed_0_eq, t__law_mixed_1_eq, t__law_mixed_2_eq, t__law_mixed_3_eq, V.str.injEq, V.ty.injEq, tFor_eq, iRng1, tSeq, tNext, tAsg, gName, tCB, tCons, tNil, tVar, tC, tOp, tTest, tAnd, tIfS, tRet, tLst, rI, rI0, rIxL, L2.start, truV_int, truV_bl, scal_int, scal_bl, List.map_cons, List.map_nil, List.length_cons, List.length_nil, List.replicate, List.cons_append, List.nil_append, List.append_nil, List.getElem?_cons_zero, List.getElem?_cons_succ, Option.some.injEq, exists_eq_left', exists_eq_left, exists_and_left, List.cons.injEq, V.int.injEq, V.ref.injEq, V.bl.injEq, and_true, true_and, List.set_cons_zero, List.set_cons_succ, Nat.reduceAdd, Nat.reduceSub, Int.reduceToNat, Int.reducePow, Int.reduceNeg, Int.reduceMul, Int.reduceAdd, Int.reduceSub, decide_eq_true_eq, Bool.not_eq_true', decide_eq_false_iff_not, exists_const, and_assoc, exists_eq, exists_eq', if_true, if_false, Bool.false_eq_true, Bool.true_eq_false, reduceCtorEq, not_true_eq_false, not_false_eq_true]
          exact ⟨logB.1, logB.2⟩
        · rintro σ H' ⟨rfl, t, c, j, rfl⟩
          simp only [t__law_mixed_0_eq, t__law_mixed_1_eq, t__law_mixed_2_eq, t__law_mixed_3_eq, V.str.injEq, V.ty.injEq, tFor_eq, iRng1, tSeq, tNext, tAsg, gName, tCB, tCons, tNil, tVar, tC, tOp, tTest, tAnd, tIfS, tRet, tLst, rI, rI0, rIxL, L2.start, truV_int, truV_bl, scal_int, scal_bl, List.map_cons, List.map_nil, List.length_cons, List.length_nil, List.replicate, List.cons_append, List.nil_append, List.append_nil, List.getElem?_cons_zero, List.getElem?_cons_succ, Option.some.injEq, exists_eq_left', exists_eq_left, exists_and_left, List.cons.injEq, V.int.injEq, V.ref.injEq, V.bl.injEq, and_true, true_and, List.set_cons_zero, List.set_cons_succ, Nat.reduceAdd, Nat.reduceSub, Int.reduceToNat, Int.reducePow, Int.reduceNeg, Int.reduceMul, Int.reduceAdd, Int.reduceSub, decide_eq_true_eq, Bool.not_eq_true', decide_eq_false_iff_not, exists_const, and_assoc, exists_eq, exists_eq', if_true, if_false, Bool.false_eq_true, Bool.true_eq_false, reduceCtorEq, not_true_eq_false, not_false_eq_true]
          refine ite2 (fun c3 => ?_) (fun c3 => ?_)
          · exact ⟨by decide, q _ (Int.emod_nonneg _ (by decide)) (Int.emod_lt_of_pos _ (by decide))⟩
          · trivial
    · trivial
  · rintro σ H' ⟨e, t, c, j, rfl⟩
    rw [e]
    simp only [t__law_mixed_0_eq, t__law_mixed_1_eq, t__law_mixed_2_eq, t__law_mixed_3_eq, V.str.injEq, V.ty.injEq, tFor_eq, iRng1, tSeq, tNext, tAsg, gName, tCB, tCons, tNil, tVar, tC, tOp, tTest, tAnd, tIfS, tRet, tLst, rI, rI0, rIxL, L2.start, truV_int, truV_bl, scal_int, scal_bl, List.map_cons, List.map_nil, List.length_cons, List.length_nil, List.replicate, List.cons_append, List.nil_append, List.append_nil, List.getElem?_cons_zero, List.getElem?_cons_succ, Option.some.injEq, exists_eq_left', exists_eq_left, exists_and_left, List.cons.injEq, V.int.injEq, V.ref.injEq, V.bl.injEq, and_true, true_and, List.set_cons_zero, List.set_cons_succ, Nat.reduceAdd, Nat.reduceSub, Int.reduceToNat, Int.reducePow, Int.reduceNeg, Int.reduceMul, Int.reduceAdd, Int.reduceSub, decide_eq_true_eq, Bool.not_eq_true', decide_eq_false_iff_not, exists_const, and_assoc, exists_eq, exists_eq', if_true, if_false, Bool.false_eq_true, Bool.true_eq_false, reduceCtorEq, not_true_eq_false, not_false_eq_true]
    refine ⟨fun σ H' => H' = H ∧ ∃ t c j, σ = [some (.ref p), some (.int k), t, some (.int c), j, none], ?_, ?_⟩
    · simp only [t__law_mixed_0_eq, t__law_mixed_1_eq, t__law_mixed_2_eq, t__law_mixed_3_eq, V.str.injEq, V.ty.injEq, tFor_eq, iRng1, tSeq, tNext, tAsg, gName, tCB, tCons, tNil, tVar, tC, tOp, tTest, tAnd, tIfS, tRet, tLst, rI, rI0, rIxL, L2.start, truV_int, truV_bl, scal_int, scal_bl, List.map_cons, List.map_nil, List.length_cons, List.length_nil, List.replicate, List.cons_append, List.nil_append, List.append_nil, List.getElem?_cons_zero, List.getElem?_cons_succ, Option.some.injEq, exists_eq_left', exists_eq_left, exists_and_left, List.cons.injEq, V.int.injEq, V.ref.injEq, V.bl.injEq, and_true, true_and, List.set_cons_zero, List.set_cons_succ, Nat.reduceAdd, Nat.reduceSub, Int.reduceToNat, Int.reducePow, Int.reduceNeg, Int.reduceMul, Int.reduceAdd, Int.reduceSub, decide_eq_true_eq, Bool.not_eq_true', decide_eq_false_iff_not, exists_const, and_assoc, exists_eq, exists_eq', if_true, if_false, Bool.false_eq_true, Bool.true_eq_false, reduceCtorEq, not_true_eq_false, not_false_eq_true]
      refine ⟨_, .inl hS, ?_⟩
      rw [el]
      refine ite2 (fun c => ?_) (fun c => trivial)
      refine ⟨_, .inl hS, ?_⟩
      rw [el]
      have hm : 0 < (if (ns.length : Int) < 63 then (ns.length : Int) else 63) := by split <;> omega
      obtain ⟨v, hv, _⟩ := at_int (ns := ns) (k := k % if (ns.length : Int) < 63 then (ns.length : Int) else 63) (Int.emod_nonneg _ (by omega)) (Int.lt_of_lt_of_le (Int.emod_lt_of_pos _ hm) (by split <;> omega))
      exact ⟨hm, _, hS, _, hv, _, rfl⟩
    · rintro σ H' ⟨e, t, c, j, rfl⟩
      rw [e]
      simp only [t__law_mixed_0_eq, t__law_mixed_1_eq, t__law_mixed_2_eq, t__law_mixed_3_eq, V.str.injEq, V.ty.injEq, tFor_eq, iRng1, tSeq, tNext, tAsg, gName, tCB, tCons, tNil, tVar, tC, tOp, tTest, tAnd, tIfS, tRet, tLst, rI, rI0, rIxL, L2.start, truV_int, truV_bl, scal_int, scal_bl, List.map_cons, List.map_nil, List.length_cons, List.length_nil, List.replicate, List.cons_append, List.nil_append, List.append_nil, List.getElem?_cons_zero, List.getElem?_cons_succ, Option.some.injEq, exists_eq_left', exists_eq_left, exists_and_left, List.cons.injEq, V.int.injEq, V.ref.injEq, V.bl.injEq, and_true, true_and, List.set_cons_zero, List.set_cons_succ, Nat.reduceAdd, Nat.reduceSub, Int.reduceToNat, Int.reducePow, Int.reduceNeg, Int.reduceMul, Int.reduceAdd, Int.reduceSub, decide_eq_true_eq, Bool.not_eq_true', decide_eq_false_iff_not, exists_const, and_assoc, exists_eq, exists_eq', if_true, if_false, Bool.false_eq_true, Bool.true_eq_false, reduceCtorEq, not_true_eq_false, not_false_eq_true]
      have b1 := Int.emod_nonneg c (show (1000000000000000000 : Int) ≠ 0 by decide)
      have b2 := Int.emod_lt_of_pos c (show (0 : Int) < 1000000000000000000 by decide)
      generalize c % 1000000000000000000 = z at b1 b2 ⊢
      have m1 : IntMulOk (z + 48271 * (k + 1)) (z + 48271 * (k + 1)) := mulR (by omega) (by omega)
      generalize (z + 48271 * (k + 1)) * (z + 48271 * (k + 1)) = y
      have b3 := Int.emod_nonneg y (show (2147483629 : Int) ≠ 0 by decide)
      have b4 := Int.emod_lt_of_pos y (show (0 : Int) < 2147483629 by decide)
      generalize y % 2147483629 = x at b3 b4 ⊢
      exact ⟨pow18, by decide, mulL (by decide) (by decide), m1, by decide, mulL (by decide) (by decide), mulR (by omega) (by omega), by decide, q _ (Int.emod_nonneg _ (by decide)) (Int.emod_lt_of_pos _ (by decide))⟩
theorem sc__law_mixed : FnScope ["_law_script", "_law_k", "_law_at", "_law_cell", "_law_j", "_law_number"] ["_law_script", "_law_k"] (defScope s__law_mixed) := ⟨rfl, rfl, rfl, by decide +kernel, rfl, by decide +kernel, by decide +kernel⟩
theorem ok__law_mixed (T : Txt K mg a) : FnOk P w K mg base CX0 1 a.f__law_mixed a.d__law_mixed ["_law_script", "_law_k"] (spMixed K) := by
  refine T.F__law_mixed.ok sc__law_mixed (fun vs H Q E h => ?_) (fun cdv A outer s H vs Q E hr h => ?_)
  · obtain ⟨p, ns, k, rfl, hS, hl, k0, k1, q⟩ := h
    rfl
  obtain ⟨p, ns, k, rfl, hS, hl, k0, k1, q⟩ := h
  exact ⟨t__law_mixed K, (pss_cons (ps_set (i := 2) sc__law_mixed.nd rfl (Or.inl rfl) (pe_op op_mod (pe_op op_fdivP (pv 1) pe_int) pe_int))
  (pss_cons (ps_cut (ps_if (PW.pt (pw_and (pt_cmpR op_lt (pv 2) (pe_callB call_len_seq rfl T.z_len PySem.boot_len (pa_cons (pv 0) pa_nil)) (nomark _)) (pw_and1 (pt_cmpR op_ge (pe_ix ix_list (pv 0) (pv 2) (fun _ _ => rfl)) (pe_op op_pow pe_int pe_int) (nomark _))))) (pss_cons (ps_set (i := 3) sc__law_mixed.nd rfl (Or.inl rfl) (pe_op op_fdivP (pe_ix ix_list (pv 0) (pv 2) (fun _ _ => rfl)) (pe_op op_pow pe_int pe_int)))
  (pss_cons (ps_for PassesOwn.never rfl (pi_range1 rfl T.z_range (pa_cons (pe_op op_mod (pv 1) pe_int) pa_nil)) (pg_name (i := 4) sc__law_mixed.nd rfl (Or.inl rfl))
  (pss_one (ps_set (i := 3) sc__law_mixed.nd rfl (Or.inl rfl) (pe_op op_fdivP (pv 3) pe_int))))
  (pss_one (ps_if (pt_cmpR op_gt (pv 3) pe_int (nomark _)) (pss_one (ps_ret (pe_op op_mod (pv 3) pe_int))) pss_nil)))) pss_nil))
  (pss_cons (ps_set (i := 3) sc__law_mixed.nd rfl (Or.inl rfl) pe_int)
  (pss_cons (ps_cut (ps_if (pt_cmpR op_gt (pe_callB call_len_seq rfl T.z_len PySem.boot_len (pa_cons (pv 0) pa_nil)) pe_int (nomark _)) (pss_one (ps_set (i := 3) sc__law_mixed.nd rfl (Or.inl rfl) (pe_ix ix_list (pv 0) (pe_op op_mod (pv 1) (pe_callB (call_min2 rfl) rfl T.z_min PyProof.Rows.boot_min (pa_cons pe_int (pa_cons (pe_callB call_len_seq rfl T.z_len PySem.boot_len (pa_cons (pv 0) pa_nil)) pa_nil)))) (fun _ _ => rfl)))) pss_nil))
  (pss_cons (ps_set (i := 5) sc__law_mixed.nd rfl (Or.inl rfl) (pe_op op_add (pe_op op_mod (pv 3) (pe_op op_pow pe_int pe_int)) (pe_op op_mulG pe_int (pe_op op_add (pv 1) pe_int))))
  (pss_cons (ps_set (i := 5) sc__law_mixed.nd rfl (Or.inl rfl) (pe_op op_add (pe_op op_mod (pe_op op_mulG (pv 5) (pv 5)) pe_int) (pe_op op_mulG pe_int (pv 1))))
  (pss_one (ps_ret (pe_op op_mod (pe_op op_mulG (pv 5) (pv 5)) pe_int))))))))),
    rd__law_mixed hS hl k0 k1 q⟩

theorem pow6 : CPow 10 6 := ⟨by decide, by decide, by decide⟩
theorem log4' : (0 : Int) < 4 ∧ (Int.natAbs 4).log2 < 9000 := by decide +kernel
theorem at4 {a b c d r : Int} (h0 : 0 ≤ r) (h1 : r < 4) : ∃ v : Int, atI [V.int a, V.int b, V.int c, V.int d] r = some (.int v) ∧ (v = a ∨ v = b ∨ v = c ∨ v = d) := by
  have : r = 0 ∨ r = 1 ∨ r = 2 ∨ r = 3 := by omega
  rcases this with rfl | rfl | rfl | rfl
  · exact ⟨a, rfl, by simp⟩
  · exact ⟨b, rfl, by simp⟩
  · exact ⟨c, rfl, by simp⟩
  · exact ⟨d, rfl, by simp⟩
def spLength : Sp := fun vs H Q _ => ∃ n : Int, vs = [.int n] ∧ ∀ (l : Int) (H' : Hp), Same H H' → 1 ≤ l → l ≤ 1000000 → Q (.int l) H'
def t__law_length (K : PySem.W.Frag) : TS :=
  (tSeq (tAsg (tOp (rI (fun _ j => 0 < j) fun i j => .int (i % j)) (tVar 0) (tC (.int 4))) (gName 1))
  (tSeq (tAsg (tOp (rI (fun _ j => 0 < j ∧ j.natAbs.log2 < 9000) fun i j => .int (i / j)) (tVar 0) (tC (.int 4))) (gName 0))
  (tRet (tOp (rIxL K) (tLst (tCons (tOp (rI0 fun i j => .int (i + j)) (tC (.int 1)) (tOp (rI (fun _ j => 0 < j) fun i j => .int (i % j)) (tVar 0) (tC (.int 9)))) (tCons (tOp (rI0 fun i j => .int (i + j)) (tC (.int 1)) (tOp (rI (fun _ j => 0 < j) fun i j => .int (i % j)) (tVar 0) (tOp (rI CPow fun i j => .int (i ^ j.toNat)) (tC (.int 10)) (tC (.int 6))))) (tCons (tOp (rI0 fun i j => .int (i - j)) (tOp (rI CPow fun i j => .int (i ^ j.toNat)) (tC (.int 10)) (tC (.int 6))) (tOp (rI (fun _ j => 0 < j) fun i j => .int (i % j)) (tVar 0) (tC (.int 3)))) (tCons (tOp (rI0 fun i j => .int (i + j)) (tC (.int 1)) (tOp (rI (fun _ j => 0 < j) fun i j => .int (i % j)) (tVar 0) (tC (.int 2)))) tNil))))) (tVar 1)))))
theorem rd__law_length {n : Int} (q : ∀ (l : Int) (H' : Hp), Same H H' → 1 ≤ l → l ≤ 1000000 → Q (.int l) H') :
    t__law_length K { nx := fun _ H' => Q .non H', rt := Q } (L2.start ["_law_number", "_law_way_here"] [.int n]) H := by
  unfold t__law_length
  simp only [rPopAt, tRng2, rListRng, rCatT, tComp_eq, rInsert, capS, rAppend, Option.bind_some, Option.bind_none, Option.join_some, Option.map_some, List.getElem?_cons_zero, List.getElem?_cons_succ, V.str.injEq, V.ty.injEq, tBM, tFor_eq, iRng1, iRng2, tSeq, tNext, tAsg, gName, tCB, tCons, tNil, tVar, tC, tOp, tTest, tIfS, tRet, tDrop, tLst, tTup, tPar, tCall, rI, rI0, rNe, rIxL, L2.start, truV_int, truV_bl, scal_int, scal_bl, List.map_cons, List.map_nil, List.length_cons, List.length_nil, List.replicate, List.cons_append, List.nil_append, List.append_nil, Option.some.injEq, exists_eq_left', exists_eq_left, exists_and_left, List.cons.injEq, V.int.injEq, V.ref.injEq, V.bl.injEq, and_true, true_and, List.set_cons_zero, List.set_cons_succ, Nat.reduceAdd, Nat.reduceSub, Int.reduceToNat, Int.reducePow, Int.reduceNeg, Int.reduceMul, Int.reduceAdd, Int.reduceSub, decide_eq_true_eq, Bool.not_eq_true', decide_eq_false_iff_not, exists_const, and_assoc, exists_eq, exists_eq', if_true, if_false, Bool.false_eq_true, Bool.true_eq_false, reduceCtorEq, not_true_eq_false, not_false_eq_true]
  obtain ⟨v, hv, hc⟩ := at4 (a := 1 + n / 4 % 9) (b := 1 + n / 4 % 1000000) (c := 1000000 - n / 4 % 3) (d := 1 + n / 4 % 2) (r := n % 4) (by omega) (by omega)
  refine ⟨by decide, log4'.1, log4'.2, by decide, pow6, by decide, pow6, by decide, by decide, by decide, fun p hp => ?_⟩
  refine ⟨_, SqL.of upd_same, _, hv, ?_⟩
  exact q v _ (same_new hp _) (by omega) (by omega)
theorem sc__law_length : FnScope ["_law_number", "_law_way_here"] ["_law_number"] (defScope s__law_length) := ⟨rfl, rfl, rfl, by decide +kernel, rfl, by decide +kernel, by decide +kernel⟩
theorem ok__law_length (T : Txt K mg a) : FnOk P w K mg base CX0 1 a.f__law_length a.d__law_length ["_law_number"] spLength := by
  refine T.F__law_length.ok sc__law_length (fun vs H Q E h => ?_) (fun cdv A outer s H vs Q E hr h => ?_)
  · obtain ⟨n, rfl, q⟩ := h
    rfl
  obtain ⟨n, rfl, q⟩ := h
  exact ⟨t__law_length K, (pss_cons (ps_set (i := 1) sc__law_length.nd rfl (Or.inl rfl) (pe_op op_mod (pv 0) pe_int))
  (pss_cons (ps_set (i := 0) sc__law_length.nd rfl (Or.inl rfl) (pe_op op_fdivP (pv 0) pe_int))
  (pss_one (ps_ret (pe_ix ix_list (pe_lst (pa_cons (pe_op op_add pe_int (pe_op op_mod (pv 0) pe_int)) (pa_cons (pe_op op_add pe_int (pe_op op_mod (pv 0) (pe_op op_pow pe_int pe_int))) (pa_cons (pe_op op_sub (pe_op op_pow pe_int pe_int) (pe_op op_mod (pv 0) pe_int)) (pa_cons (pe_op op_add pe_int (pe_op op_mod (pv 0) pe_int)) pa_nil))))) (pv 1) (fun _ _ => rfl)))))),
    rd__law_length q⟩

theorem seqIx {i : Int} {n : Nat} (h0 : 0 ≤ i) (h1 : i < n) : PySem.seqIndex? i n = some i.toNat := by
  unfold PySem.seqIndex?
  have e : ¬ i < 0 := by omega
  simp [e, h0, h1]
def upto (m : Int) : List Int := (List.range m.toNat).map fun k : Nat => (k : Int)
theorem mem_ints {m x : Int} : x ∈ upto m ↔ 0 ≤ x ∧ x < m := by
  unfold upto
  rw [List.mem_map]
  constructor
  · rintro ⟨k, hk, rfl⟩
    have := List.mem_range.mp hk
    omega
  · rintro ⟨h0, h1⟩
    exact ⟨x.toNat, List.mem_range.mpr (by omega), by omega⟩
theorem nodup_ints {m : Int} : (upto m).Nodup := by
  unfold upto
  refine List.nodup_iff_pairwise_ne.mpr (List.pairwise_map.mpr ((List.nodup_iff_pairwise_ne.mp List.nodup_range).imp fun h e => h ?_))
  omega
theorem ints_cons {m : Int} (h : 1 ≤ m) : upto m = 0 :: (List.range (m - 1).toNat).map fun k : Nat => 1 + (k : Int) := by
  unfold upto
  rw [show m.toNat = (m - 1).toNat + 1 by omega, List.range_succ_eq_map, List.map_cons, List.map_map]
  refine congrArg (List.cons 0) (List.map_congr_left fun k _ => ?_)
  simp only [Function.comp]
  omega
theorem erase_map {α β : Type} (f : α → β) : ∀ (l : List α) (k : Nat), (l.map f).eraseIdx k = (l.eraseIdx k).map f
  | [], k => by simp
  | x :: l, 0 => rfl
  | x :: l, k + 1 => by
    rw [List.map_cons, List.eraseIdx_cons_succ, List.eraseIdx_cons_succ, List.map_cons, erase_map f l k]
theorem erase_perm {α : Type} {l : List α} {k : Nat} {x : α} (h : l[k]? = some x) : (x :: l.eraseIdx k).Perm l := by
  induction l generalizing k with
  | nil => simp at h
  | cons y l ih =>
    cases k with
    | zero =>
      simp only [List.getElem?_cons_zero, Option.some.injEq] at h
      subst h
      exact .refl _
    | succ k =>
      rw [List.getElem?_cons_succ] at h
      rw [List.eraseIdx_cons_succ]
      exact (List.Perm.swap y x _).trans ((ih h).cons y)
theorem nodup_at {α : Type} {l : List α} (nd : l.Nodup) {i j : Nat} {x y : α} (h1 : l[i]? = some x) (h2 : l[j]? = some y) (c : i < j) : x ≠ y := by
  obtain ⟨l1, e1⟩ := List.getElem?_eq_some_iff.mp h1
  obtain ⟨l2, e2⟩ := List.getElem?_eq_some_iff.mp h2
  rw [← e1, ← e2]
  exact List.pairwise_iff_getElem.mp (List.nodup_iff_pairwise_ne.mp nd) i j l1 l2 c
theorem nodup_inj {α : Type} {l : List α} (nd : l.Nodup) {i j : Nat} {x : α} (h1 : l[i]? = some x) (h2 : l[j]? = some x) : i = j := by
  rcases Nat.lt_trichotomy i j with c | c | c
  · exact absurd rfl (nodup_at nd h1 h2 c)
  · exact c
  · exact absurd rfl (nodup_at nd h2 h1 c)
theorem at2 {x y : V} {r : Int} (h0 : 0 ≤ r) (h1 : r < 2) : ∃ v, atI [x, y] r = some v ∧ (v = x ∨ v = y) := by
  have : r = 0 ∨ r = 1 := by omega
  rcases this with rfl | rfl
  · exact ⟨x, rfl, .inl rfl⟩
  · exact ⟨y, rfl, .inr rfl⟩
theorem log3600 : (0 : Int) < 3600 ∧ (Int.natAbs 3600).log2 < 9000 := by decide +kernel
theorem log100 : (0 : Int) < 100 ∧ (Int.natAbs 100).log2 < 9000 := by decide +kernel
theorem log2' : (0 : Int) < 2 ∧ (Int.natAbs 2).log2 < 9000 := by decide +kernel
/-- the k-th place is joined to an earlier one -/
def Joins (ls : List Int) (rs : List Road) (n : Nat) : Prop := ∀ k, 1 ≤ k → k ≤ n → ∃ r ∈ rs, ∃ j, j < k ∧ ((ls[k]? = some r.1 ∧ ls[j]? = some r.2.1) ∨ (ls[k]? = some r.2.1 ∧ ls[j]? = some r.1))
theorem Joins.conn {ls : List Int} {rs : List Road} {n : Nat} {m : Int} (h : Joins ls rs n) (hm : m = n + 1) (hp : ls.Perm (upto m)) (h0 : ls[0]? = some 0) : Conn m rs := by
  intro S s0 sc x x0 x1
  have hl : ls.length = n + 1 := by
    rw [hp.length_eq]
    unfold upto
    rw [List.length_map, List.length_range]
    omega
  have z : ∀ (k : Nat) (y : Int), ls[k]? = some y → S y := by
    intro k
    induction k using Nat.strongRecOn with
    | ind k ih =>
      intro y hy
      cases k with
      | zero =>
        rw [h0] at hy
        cases hy
        exact s0
      | succ k =>
        have lk := (List.getElem?_eq_some_iff.mp hy).1
        obtain ⟨r, hr, j, hj, c⟩ := h (k + 1) (by omega) (by omega)
        rcases c with ⟨c1, c2⟩ | ⟨c1, c2⟩
        · rw [hy] at c1
          cases c1
          exact (sc r hr (.inr (ih j hj _ c2))).1
        · rw [hy] at c1
          cases c1
          exact (sc r hr (.inl (ih j hj _ c2))).2
  have hx : x ∈ ls := hp.mem_iff.mpr (mem_ints.mpr ⟨x0, x1⟩)
  obtain ⟨k, hk⟩ := List.getElem?_of_mem hx
  exact z k x hk
theorem Joins.mono {ls : List Int} {rs rs' : List Road} {n : Nat} (h : Joins ls rs n) (hs : ∀ r ∈ rs, r ∈ rs') : Joins ls rs' n := fun k k1 kn => by
  obtain ⟨r, hr, c⟩ := h k k1 kn
  exact ⟨r, hs r hr, c⟩
/-- put in at a place -/
def insAt {α : Type} (l : List α) (k : Nat) (x : α) : List α := l.take k ++ x :: l.drop k
theorem insAt_map {α β : Type} (f : α → β) (l : List α) (k : Nat) (x : α) : (insAt l k x).map f = insAt (l.map f) k (f x) := by
  unfold insAt
  rw [List.map_append, List.map_cons, List.map_take, List.map_drop]
theorem insAt_mem {α : Type} {l : List α} {k : Nat} {x y : α} : y ∈ insAt l k x ↔ y = x ∨ y ∈ l := by
  unfold insAt
  rw [List.mem_append, List.mem_cons]
  constructor
  · rintro (h | h | h)
    · exact .inr (List.mem_of_mem_take h)
    · exact .inl h
    · exact .inr (List.mem_of_mem_drop h)
  · rintro (h | h)
    · exact .inr (.inl h)
    · rw [← List.take_append_drop k l] at h
      rcases List.mem_append.mp h with h | h
      · exact .inl h
      · exact .inr (.inr h)
theorem insAt_len {α : Type} {l : List α} {k : Nat} {x : α} (h : k ≤ l.length) : (insAt l k x).length = l.length + 1 := by
  unfold insAt
  rw [List.length_append, List.length_cons, List.length_take, List.length_drop]
  omega
theorem insAt_at {α : Type} {l : List α} {k : Nat} {x : α} (h : k ≤ l.length) (i : Nat) : (insAt l k x)[i]? = if i < k then l[i]? else if i = k then some x else l[i - 1]? := by
  unfold insAt
  have lt : (l.take k).length = k := by rw [List.length_take]; omega
  by_cases c : i < k
  · rw [if_pos c, List.getElem?_append_left (by omega), List.getElem?_take_of_lt c]
  · rw [if_neg c, List.getElem?_append_right (by omega), lt]
    by_cases c2 : i = k
    · subst c2
      rw [if_pos rfl, Nat.sub_self]
      rfl
    · rw [if_neg c2, show i - k = (i - k - 1) + 1 by omega, List.getElem?_cons_succ, List.getElem?_drop]
      congr 1
      omega
theorem Tps.ins {α : Type} {f : α → List V} {H : Hp} {ts : List Addr} {bs : List α} {t : Addr} {b : α} {k : Nat} (h : Tps f H ts bs) (hk : k ≤ ts.length) (e : H t = some (.tup (f b))) : Tps f H (insAt ts k t) (insAt bs k b) := by
  have hk' : k ≤ bs.length := by rw [← h.1]; exact hk
  refine ⟨by rw [insAt_len hk, insAt_len hk', h.1], fun i x y e1 e2 => ?_⟩
  rw [insAt_at hk] at e1
  rw [insAt_at hk'] at e2
  split at e1
  · rename_i c
    rw [if_pos c] at e2
    exact h.2 i x y e1 e2
  · rename_i c
    rw [if_neg c] at e2
    split at e1
    · rename_i c2
      rw [if_pos c2] at e2
      cases e1
      cases e2
      exact e
    · rename_i c2
      rw [if_neg c2] at e2
      exact h.2 _ x y e1 e2
def spWeb (K : PySem.W.Frag) : Sp := fun vs H Q _ => ∃ (p : Addr) (ns : List Int) (st mo ex : Int), vs = [.ref p, .int st, .int mo, .int ex] ∧ SqL K H p (ns.map V.int) ∧ ns.length ≤ 63 ∧ 0 ≤ st ∧ st ≤ 10000 ∧ 1 ≤ mo ∧ mo ≤ 60 ∧ 0 ≤ ex ∧ ex ≤ 20 ∧
  ∀ (w rl : Addr) (ts : List Addr) (m : Int) (rs : List Road) (H' : Hp), Same H H' → WebH H' w rl ts m rs → GW m rs → m ≤ mo → (rs.length : Int) ≤ m - 1 + ex → m - 1 ≤ (rs.length : Int) → Q (.ref w) H'
def t__law_web_0 (K : PySem.W.Frag) : TS :=
  (tIfS (tTest (tOp rNe (tVar 14) (tVar 15))) (tDrop (tBM K "list" rInsert (tVar 9) (tCons (tOp (rI (fun _ j => 0 < j) fun i j => .int (i % j)) (tOp (rI (fun _ j => 0 < j ∧ j.natAbs.log2 < 9000) fun i j => .int (i / j)) (tVar 10) (tC (.int 3600))) (tOp (rI0 fun i j => .int (i + j)) (tCB (fun xs H Q => ∃ p ys, xs = [.ref p] ∧ (SqL K H p ys ∨ SqT K H p ys) ∧ Q (.int ys.length) H) (tCons (tVar 9) tNil)) (tC (.int 1)))) (tCons (tTup (tCons (tVar 14) (tCons (tVar 15) (tCons (tCall spLength [] E0 (tCons (tOp (rI (fun _ j => 0 < j ∧ j.natAbs.log2 < 9000) fun i j => .int (i / j)) (tVar 10) (tC (.int 100))) tNil)) tNil)))) tNil)))) tNext)
theorem t__law_web_0_eq (K : PySem.W.Frag) (D : Ends) (σ : St) (H : Hp) : t__law_web_0 K D σ H = (tIfS (tTest (tOp rNe (tVar 14) (tVar 15))) (tDrop (tBM K "list" rInsert (tVar 9) (tCons (tOp (rI (fun _ j => 0 < j) fun i j => .int (i % j)) (tOp (rI (fun _ j => 0 < j ∧ j.natAbs.log2 < 9000) fun i j => .int (i / j)) (tVar 10) (tC (.int 3600))) (tOp (rI0 fun i j => .int (i + j)) (tCB (fun xs H Q => ∃ p ys, xs = [.ref p] ∧ (SqL K H p ys ∨ SqT K H p ys) ∧ Q (.int ys.length) H) (tCons (tVar 9) tNil)) (tC (.int 1)))) (tCons (tTup (tCons (tVar 14) (tCons (tVar 15) (tCons (tCall spLength [] E0 (tCons (tOp (rI (fun _ j => 0 < j ∧ j.natAbs.log2 < 9000) fun i j => .int (i / j)) (tVar 10) (tC (.int 100))) tNil)) tNil)))) tNil)))) tNext) D σ H := rfl
def t__law_web_1 (K : PySem.W.Frag) : TS :=
  (tSeq (tPar 14 15 (tCons (tOp (rI (fun _ j => 0 < j) fun i j => .int (i % j)) (tVar 10) (tVar 4)) (tCons (tOp (rI (fun _ j => 0 < j) fun i j => .int (i % j)) (tOp (rI (fun _ j => 0 < j ∧ j.natAbs.log2 < 9000) fun i j => .int (i / j)) (tVar 10) (tVar 4)) (tVar 4)) tNil)))
  (t__law_web_0 K))
theorem t__law_web_1_eq (K : PySem.W.Frag) (D : Ends) (σ : St) (H : Hp) : t__law_web_1 K D σ H = (tSeq (tPar 14 15 (tCons (tOp (rI (fun _ j => 0 < j) fun i j => .int (i % j)) (tVar 10) (tVar 4)) (tCons (tOp (rI (fun _ j => 0 < j) fun i j => .int (i % j)) (tOp (rI (fun _ j => 0 < j ∧ j.natAbs.log2 < 9000) fun i j => .int (i / j)) (tVar 10) (tVar 4)) (tVar 4)) tNil)))
  (t__law_web_0 K)) D σ H := rfl
def t__law_web_2 (K : PySem.W.Frag) : TS :=
  (tSeq (tAsg (tCall (spMixed K) [] E0 (tCons (tVar 0) (tCons (tOp (rI0 fun i j => .int (i + j)) (tOp (rI0 fun i j => .int (i + j)) (tVar 1) (tC (.int 181))) (tVar 8)) tNil))) (gName 10))
  (t__law_web_1 K))
theorem t__law_web_2_eq (K : PySem.W.Frag) (D : Ends) (σ : St) (H : Hp) : t__law_web_2 K D σ H = (tSeq (tAsg (tCall (spMixed K) [] E0 (tCons (tVar 0) (tCons (tOp (rI0 fun i j => .int (i + j)) (tOp (rI0 fun i j => .int (i + j)) (tVar 1) (tC (.int 181))) (tVar 8)) tNil))) (gName 10))
  (t__law_web_1 K)) D σ H := rfl
def t__law_web_3 (K : PySem.W.Frag) : TS :=
  (tDrop (tBM K "list" rInsert (tVar 9) (tCons (tVar 13) (tCons (tOp (rCatT K) (tVar 12) (tTup (tCons (tCall spLength [] E0 (tCons (tOp (rI (fun _ j => 0 < j ∧ j.natAbs.log2 < 9000) fun i j => .int (i / j)) (tOp (rI (fun _ j => 0 < j ∧ j.natAbs.log2 < 9000) fun i j => .int (i / j)) (tVar 10) (tVar 8)) (tC (.int 2))) tNil)) tNil))) tNil))))
theorem t__law_web_3_eq (K : PySem.W.Frag) (D : Ends) (σ : St) (H : Hp) : t__law_web_3 K D σ H = (tDrop (tBM K "list" rInsert (tVar 9) (tCons (tVar 13) (tCons (tOp (rCatT K) (tVar 12) (tTup (tCons (tCall spLength [] E0 (tCons (tOp (rI (fun _ j => 0 < j ∧ j.natAbs.log2 < 9000) fun i j => .int (i / j)) (tOp (rI (fun _ j => 0 < j ∧ j.natAbs.log2 < 9000) fun i j => .int (i / j)) (tVar 10) (tVar 8)) (tC (.int 2))) tNil)) tNil))) tNil)))) D σ H := rfl
def t__law_web_4 (K : PySem.W.Frag) : TS :=
  (tSeq (tAsg (tOp (rI (fun _ j => 0 < j) fun i j => .int (i % j)) (tCall (spMixed K) [] E0 (tCons (tVar 0) (tCons (tOp (rI0 fun i j => .int (i + j)) (tOp (rI0 fun i j => .int (i + j)) (tVar 1) (tC (.int 120))) (tVar 8)) tNil))) (tOp (rI0 fun i j => .int (i + j)) (tCB (fun xs H Q => ∃ p ys, xs = [.ref p] ∧ (SqL K H p ys ∨ SqT K H p ys) ∧ Q (.int ys.length) H) (tCons (tVar 9) tNil)) (tC (.int 1)))) (gName 13))
  (t__law_web_3 K))
theorem t__law_web_4_eq (K : PySem.W.Frag) (D : Ends) (σ : St) (H : Hp) : t__law_web_4 K D σ H = (tSeq (tAsg (tOp (rI (fun _ j => 0 < j) fun i j => .int (i % j)) (tCall (spMixed K) [] E0 (tCons (tVar 0) (tCons (tOp (rI0 fun i j => .int (i + j)) (tOp (rI0 fun i j => .int (i + j)) (tVar 1) (tC (.int 120))) (tVar 8)) tNil))) (tOp (rI0 fun i j => .int (i + j)) (tCB (fun xs H Q => ∃ p ys, xs = [.ref p] ∧ (SqL K H p ys ∨ SqT K H p ys) ∧ Q (.int ys.length) H) (tCons (tVar 9) tNil)) (tC (.int 1)))) (gName 13))
  (t__law_web_3 K)) D σ H := rfl
def t__law_web_5 (K : PySem.W.Frag) : TS :=
  (tSeq (tAsg (tOp (rIxL K) (tLst (tCons (tTup (tCons (tOp (rIxL K) (tVar 6) (tVar 8)) (tCons (tVar 11) tNil))) (tCons (tTup (tCons (tVar 11) (tCons (tOp (rIxL K) (tVar 6) (tVar 8)) tNil))) tNil))) (tOp (rI (fun _ j => 0 < j) fun i j => .int (i % j)) (tOp (rI (fun _ j => 0 < j ∧ j.natAbs.log2 < 9000) fun i j => .int (i / j)) (tVar 10) (tVar 8)) (tC (.int 2)))) (gName 12))
  (t__law_web_4 K))
theorem t__law_web_5_eq (K : PySem.W.Frag) (D : Ends) (σ : St) (H : Hp) : t__law_web_5 K D σ H = (tSeq (tAsg (tOp (rIxL K) (tLst (tCons (tTup (tCons (tOp (rIxL K) (tVar 6) (tVar 8)) (tCons (tVar 11) tNil))) (tCons (tTup (tCons (tVar 11) (tCons (tOp (rIxL K) (tVar 6) (tVar 8)) tNil))) tNil))) (tOp (rI (fun _ j => 0 < j) fun i j => .int (i % j)) (tOp (rI (fun _ j => 0 < j ∧ j.natAbs.log2 < 9000) fun i j => .int (i / j)) (tVar 10) (tVar 8)) (tC (.int 2)))) (gName 12))
  (t__law_web_4 K)) D σ H := rfl
def t__law_web_6 (K : PySem.W.Frag) : TS :=
  (tSeq (tAsg (tOp (rIxL K) (tVar 6) (tOp (rIxL K) (tLst (tCons (tOp (rI (fun _ j => 0 < j) fun i j => .int (i % j)) (tVar 10) (tVar 8)) (tCons (tOp (rI0 fun i j => .int (i - j)) (tVar 8) (tC (.int 1))) (tCons (tC (.int 0)) (tCons (tOp (rI (fun _ j => 0 < j) fun i j => .int (i % j)) (tVar 10) (tCB (fun xs H Q => ∃ i j, xs = [.int i, .int j] ∧ Q (.int (if j < i then j else i)) H) (tCons (tVar 8) (tCons (tC (.int 3)) tNil)))) tNil))))) (tVar 5))) (gName 11))
  (t__law_web_5 K))
theorem t__law_web_6_eq (K : PySem.W.Frag) (D : Ends) (σ : St) (H : Hp) : t__law_web_6 K D σ H = (tSeq (tAsg (tOp (rIxL K) (tVar 6) (tOp (rIxL K) (tLst (tCons (tOp (rI (fun _ j => 0 < j) fun i j => .int (i % j)) (tVar 10) (tVar 8)) (tCons (tOp (rI0 fun i j => .int (i - j)) (tVar 8) (tC (.int 1))) (tCons (tC (.int 0)) (tCons (tOp (rI (fun _ j => 0 < j) fun i j => .int (i % j)) (tVar 10) (tCB (fun xs H Q => ∃ i j, xs = [.int i, .int j] ∧ Q (.int (if j < i then j else i)) H) (tCons (tVar 8) (tCons (tC (.int 3)) tNil)))) tNil))))) (tVar 5))) (gName 11))
  (t__law_web_5 K)) D σ H := rfl
def t__law_web_7 (K : PySem.W.Frag) : TS :=
  (tSeq (tAsg (tCall (spMixed K) [] E0 (tCons (tVar 0) (tCons (tOp (rI0 fun i j => .int (i + j)) (tOp (rI0 fun i j => .int (i + j)) (tVar 1) (tC (.int 60))) (tVar 8)) tNil))) (gName 10))
  (t__law_web_6 K))
theorem t__law_web_7_eq (K : PySem.W.Frag) (D : Ends) (σ : St) (H : Hp) : t__law_web_7 K D σ H = (tSeq (tAsg (tCall (spMixed K) [] E0 (tCons (tVar 0) (tCons (tOp (rI0 fun i j => .int (i + j)) (tOp (rI0 fun i j => .int (i + j)) (tVar 1) (tC (.int 60))) (tVar 8)) tNil))) (gName 10))
  (t__law_web_6 K)) D σ H := rfl
def t__law_web_8 (K : PySem.W.Frag) : TS :=
  (tSeq (tFor (iRng1 (tCons (tOp (rI (fun _ j => 0 < j) fun i j => .int (i % j)) (tCall (spMixed K) [] E0 (tCons (tVar 0) (tCons (tOp (rI0 fun i j => .int (i + j)) (tVar 1) (tC (.int 180))) tNil))) (tOp (rI0 fun i j => .int (i + j)) (tVar 3) (tC (.int 1)))) tNil)) (gName 8)
  (t__law_web_2 K))
  (tRet (tTup (tCons (tVar 4) (tCons (tVar 9) tNil)))))
theorem t__law_web_8_eq (K : PySem.W.Frag) (D : Ends) (σ : St) (H : Hp) : t__law_web_8 K D σ H = (tSeq (tFor (iRng1 (tCons (tOp (rI (fun _ j => 0 < j) fun i j => .int (i % j)) (tCall (spMixed K) [] E0 (tCons (tVar 0) (tCons (tOp (rI0 fun i j => .int (i + j)) (tVar 1) (tC (.int 180))) tNil))) (tOp (rI0 fun i j => .int (i + j)) (tVar 3) (tC (.int 1)))) tNil)) (gName 8)
  (t__law_web_2 K))
  (tRet (tTup (tCons (tVar 4) (tCons (tVar 9) tNil))))) D σ H := rfl
def t__law_web_9 (K : PySem.W.Frag) : TS :=
  (tDrop (tBM K "list" rAppend (tVar 6) (tCons (tBM K "list" rPopAt (tVar 7) (tCons (tOp (rI (fun _ j => 0 < j) fun i j => .int (i % j)) (tCall (spMixed K) [] E0 (tCons (tVar 0) (tCons (tOp (rI0 fun i j => .int (i + j)) (tOp (rI0 fun i j => .int (i + j)) (tVar 1) (tC (.int 1))) (tVar 8)) tNil))) (tCB (fun xs H Q => ∃ p ys, xs = [.ref p] ∧ (SqL K H p ys ∨ SqT K H p ys) ∧ Q (.int ys.length) H) (tCons (tVar 7) tNil))) tNil)) tNil)))
theorem t__law_web_9_eq (K : PySem.W.Frag) (D : Ends) (σ : St) (H : Hp) : t__law_web_9 K D σ H = (tDrop (tBM K "list" rAppend (tVar 6) (tCons (tBM K "list" rPopAt (tVar 7) (tCons (tOp (rI (fun _ j => 0 < j) fun i j => .int (i % j)) (tCall (spMixed K) [] E0 (tCons (tVar 0) (tCons (tOp (rI0 fun i j => .int (i + j)) (tOp (rI0 fun i j => .int (i + j)) (tVar 1) (tC (.int 1))) (tVar 8)) tNil))) (tCB (fun xs H Q => ∃ p ys, xs = [.ref p] ∧ (SqL K H p ys ∨ SqT K H p ys) ∧ Q (.int ys.length) H) (tCons (tVar 7) tNil))) tNil)) tNil))) D σ H := rfl
def t__law_web_10 (K : PySem.W.Frag) : TS :=
  (tSeq (tAsg (tLst tNil) (gName 9))
  (tSeq (tFor (iRng2 (tCons (tC (.int 1)) (tCons (tVar 4) tNil))) (gName 8)
  (t__law_web_7 K))
  (t__law_web_8 K)))
theorem t__law_web_10_eq (K : PySem.W.Frag) (D : Ends) (σ : St) (H : Hp) : t__law_web_10 K D σ H = (tSeq (tAsg (tLst tNil) (gName 9))
  (tSeq (tFor (iRng2 (tCons (tC (.int 1)) (tCons (tVar 4) tNil))) (gName 8)
  (t__law_web_7 K))
  (t__law_web_8 K))) D σ H := rfl
def t__law_web_11 (K : PySem.W.Frag) : TS :=
  (tSeq (tAsg (tCB rListRng (tCons (tRng2 (tCons (tC (.int 1)) (tCons (tVar 4) tNil))) tNil)) (gName 7))
  (tSeq (tFor (iRng1 (tCons (tOp (rI0 fun i j => .int (i - j)) (tVar 4) (tC (.int 1))) tNil)) (gName 8)
  (t__law_web_9 K))
  (t__law_web_10 K)))
theorem t__law_web_11_eq (K : PySem.W.Frag) (D : Ends) (σ : St) (H : Hp) : t__law_web_11 K D σ H = (tSeq (tAsg (tCB rListRng (tCons (tRng2 (tCons (tC (.int 1)) (tCons (tVar 4) tNil))) tNil)) (gName 7))
  (tSeq (tFor (iRng1 (tCons (tOp (rI0 fun i j => .int (i - j)) (tVar 4) (tC (.int 1))) tNil)) (gName 8)
  (t__law_web_9 K))
  (t__law_web_10 K))) D σ H := rfl
def t__law_web_12 (K : PySem.W.Frag) : TS :=
  (tSeq (tAsg (tOp (rI (fun _ j => 0 < j) fun i j => .int (i % j)) (tOp (rI (fun _ j => 0 < j ∧ j.natAbs.log2 < 9000) fun i j => .int (i / j)) (tCall (spMixed K) [] E0 (tCons (tVar 0) (tCons (tVar 1) tNil))) (tVar 2)) (tC (.int 4))) (gName 5))
  (tSeq (tAsg (tLst (tCons (tC (.int 0)) tNil)) (gName 6))
  (t__law_web_11 K)))
theorem t__law_web_12_eq (K : PySem.W.Frag) (D : Ends) (σ : St) (H : Hp) : t__law_web_12 K D σ H = (tSeq (tAsg (tOp (rI (fun _ j => 0 < j) fun i j => .int (i % j)) (tOp (rI (fun _ j => 0 < j ∧ j.natAbs.log2 < 9000) fun i j => .int (i / j)) (tCall (spMixed K) [] E0 (tCons (tVar 0) (tCons (tVar 1) tNil))) (tVar 2)) (tC (.int 4))) (gName 5))
  (tSeq (tAsg (tLst (tCons (tC (.int 0)) tNil)) (gName 6))
  (t__law_web_11 K))) D σ H := rfl
def t__law_web (K : PySem.W.Frag) : TS :=
  (tSeq (tAsg (tOp (rI0 fun i j => .int (i + j)) (tC (.int 1)) (tOp (rI (fun _ j => 0 < j) fun i j => .int (i % j)) (tCall (spMixed K) [] E0 (tCons (tVar 0) (tCons (tVar 1) tNil))) (tVar 2))) (gName 4))
  (t__law_web_12 K))
theorem rd__law_web {p : Addr} {ns : List Int} {st mo ex : Int} (hS : SqL K H p (ns.map V.int)) (hl : ns.length ≤ 63) (st0 : 0 ≤ st) (st1 : st ≤ 10000) (mo1 : 1 ≤ mo) (mo60 : mo ≤ 60) (ex0 : 0 ≤ ex) (ex20 : ex ≤ 20)
    (q : ∀ (w rl : Addr) (ts : List Addr) (m : Int) (rs : List Road) (H' : Hp), Same H H' → WebH H' w rl ts m rs → GW m rs → m ≤ mo → (rs.length : Int) ≤ m - 1 + ex → m - 1 ≤ (rs.length : Int) → Q (.ref w) H') :
    t__law_web K { nx := fun _ H' => Q .non H', rt := Q } (L2.start ["_law_script", "_law_start", "_law_most", "_law_extra", "_law_many", "_law_shape", "_law_labels", "_law_left", "_law_k", "_law_roads", "_law_number", "_law_other", "_law_ends", "_law_at", "_law_a", "_law_b"] [.ref p, .int st, .int mo, .int ex]) H := by
  unfold t__law_web
  simp only [t__law_web_2_eq, t__law_web_7_eq, t__law_web_8_eq, t__law_web_9_eq, t__law_web_10_eq, rPopAt, tRng2, rListRng, rCatT, tComp_eq, rInsert, capS, rAppend, Option.bind_some, Option.bind_none, Option.join_some, Option.map_some, List.getElem?_cons_zero, List.getElem?_cons_succ, V.str.injEq, V.ty.injEq, tBM, tFor_eq, iRng1, iRng2, tSeq, tNext, tAsg, gName, tCB, tCons, tNil, tVar, tC, tOp, tTest, tIfS, tRet, tDrop, tLst, tTup, tPar, tCall, rI, rI0, rEq, rNe, rIxL, L2.start, truV_int, truV_bl, scal_int, scal_bl, List.map_cons, List.map_nil, List.length_cons, List.length_nil, List.replicate, List.cons_append, List.nil_append, List.append_nil, Option.some.injEq, exists_eq_left', exists_eq_left, exists_and_left, List.cons.injEq, V.int.injEq, V.ref.injEq, V.bl.injEq, and_true, true_and, List.set_cons_zero, List.set_cons_succ, Nat.reduceAdd, Nat.reduceSub, Int.reduceToNat, Int.reducePow, Int.reduceNeg, Int.reduceMul, Int.reduceAdd, Int.reduceSub, decide_eq_true_eq, Bool.not_eq_true', decide_eq_false_iff_not, exists_const, and_assoc, exists_eq, exists_eq', if_true, if_false, Bool.false_eq_true, Bool.true_eq_false, reduceCtorEq, not_true_eq_false, not_false_eq_true]
  refine ⟨p, ns, st, rfl, hS, hl, st0, by omega, fun r1 r10 r11 => ?_⟩
  refine ⟨_, rfl, by omega, ?_⟩
  have m1 : 1 ≤ 1 + r1 % mo := by have := Int.emod_nonneg r1 (show mo ≠ 0 by omega); omega
  have m2 : 1 + r1 % mo ≤ mo := by have := Int.emod_lt_of_pos r1 (show 0 < mo by omega); omega
  generalize 1 + r1 % mo = m at m1 m2 ⊢
  (try simp only); first | rw [t__law_web_0_eq] | rw [t__law_web_1_eq] | rw [t__law_web_3_eq] | rw [t__law_web_4_eq] | rw [t__law_web_5_eq] | rw [t__law_web_6_eq] | rw [t__law_web_11_eq] | rw [t__law_web_12_eq]
  simp only [t__law_web_2_eq, t__law_web_7_eq, t__law_web_8_eq, t__law_web_9_eq, t__law_web_10_eq, rPopAt, tRng2, rListRng, rCatT, tComp_eq, rInsert, capS, rAppend, Option.bind_some, Option.bind_none, Option.join_some, Option.map_some, List.getElem?_cons_zero, List.getElem?_cons_succ, V.str.injEq, V.ty.injEq, tBM, tFor_eq, iRng1, iRng2, tSeq, tNext, tAsg, gName, tCB, tCons, tNil, tVar, tC, tOp, tTest, tIfS, tRet, tDrop, tLst, tTup, tPar, tCall, rI, rI0, rEq, rNe, rIxL, L2.start, truV_int, truV_bl, scal_int, scal_bl, List.map_cons, List.map_nil, List.length_cons, List.length_nil, List.replicate, List.cons_append, List.nil_append, List.append_nil, Option.some.injEq, exists_eq_left', exists_eq_left, exists_and_left, List.cons.injEq, V.int.injEq, V.ref.injEq, V.bl.injEq, and_true, true_and, List.set_cons_zero, List.set_cons_succ, Nat.reduceAdd, Nat.reduceSub, Int.reduceToNat, Int.reducePow, Int.reduceNeg, Int.reduceMul, Int.reduceAdd, Int.reduceSub, decide_eq_true_eq, Bool.not_eq_true', decide_eq_false_iff_not, exists_const, and_assoc, exists_eq, exists_eq', if_true, if_false, Bool.false_eq_true, Bool.true_eq_false, reduceCtorEq, not_true_eq_false, not_false_eq_true]
  refine ⟨p, ns, st, rfl, hS, hl, st0, by omega, fun r2 r20 r21 => ?_⟩
  refine ⟨_, rfl, by omega, log_lt 6 (by omega) (show mo.natAbs < 64 by omega), by decide, ?_⟩
  have sh0 : 0 ≤ r2 / mo % 4 := by omega
  have sh4 : r2 / mo % 4 < 4 := by omega
  generalize r2 / mo % 4 = shp at sh0 sh4 ⊢
  refine ⟨by decide, fun lab hlab => ?_⟩
  (try simp only); first | rw [t__law_web_0_eq] | rw [t__law_web_1_eq] | rw [t__law_web_3_eq] | rw [t__law_web_4_eq] | rw [t__law_web_5_eq] | rw [t__law_web_6_eq] | rw [t__law_web_11_eq] | rw [t__law_web_12_eq]
  simp only [t__law_web_2_eq, t__law_web_7_eq, t__law_web_8_eq, t__law_web_9_eq, t__law_web_10_eq, rPopAt, tRng2, rListRng, rCatT, tComp_eq, rInsert, capS, rAppend, Option.bind_some, Option.bind_none, Option.join_some, Option.map_some, List.getElem?_cons_zero, List.getElem?_cons_succ, V.str.injEq, V.ty.injEq, tBM, tFor_eq, iRng1, iRng2, tSeq, tNext, tAsg, gName, tCB, tCons, tNil, tVar, tC, tOp, tTest, tIfS, tRet, tDrop, tLst, tTup, tPar, tCall, rI, rI0, rEq, rNe, rIxL, L2.start, truV_int, truV_bl, scal_int, scal_bl, List.map_cons, List.map_nil, List.length_cons, List.length_nil, List.replicate, List.cons_append, List.nil_append, List.append_nil, Option.some.injEq, exists_eq_left', exists_eq_left, exists_and_left, List.cons.injEq, V.int.injEq, V.ref.injEq, V.bl.injEq, and_true, true_and, List.set_cons_zero, List.set_cons_succ, Nat.reduceAdd, Nat.reduceSub, Int.reduceToNat, Int.reducePow, Int.reduceNeg, Int.reduceMul, Int.reduceAdd, Int.reduceSub, decide_eq_true_eq, Bool.not_eq_true', decide_eq_false_iff_not, exists_const, and_assoc, exists_eq, exists_eq', if_true, if_false, Bool.false_eq_true, Bool.true_eq_false, reduceCtorEq, not_true_eq_false, not_false_eq_true]
  refine ⟨by decide, by decide, by omega, by omega, fun rg hrg => ⟨1, m, upd_same, by decide, by decide, by omega, by omega, by omega, fun lef hlef => ?_⟩⟩
  refine ⟨by omega, by omega, ?_⟩
  have hlef0 : H lef = none := ((Same.refl H).add hlab).add hrg |>.free hlef
  have hne : lab ≠ lef := ne_of_none (show (L2.upd (L2.upd H lab (.lst [V.int 0])) rg (.rng 1 m)) lab = some (.lst [V.int 0]) by rw [upd_ne (ne_of_none upd_same hrg)]; exact upd_same) hlef
  refine for_rangeF (fun i σ H' => Same H H' ∧ ∃ (ls lf : List Int) (x : Option V), H' lab = some (.lst (ls.map V.int)) ∧ H' lef = some (.lst (lf.map V.int)) ∧ (ls ++ lf).Perm (upto m) ∧ ls.length = i + 1 ∧ ls[0]? = some 0 ∧
    σ = [some (.ref p), some (.int st), some (.int mo), some (.int ex), some (.int m), some (.int shp), some (.ref lab), some (.ref lef), x, none, none, none, none, none, none, none]) ?_ ?_ ?_
  · refine ⟨(((Same.refl H).add hlab).add hrg).add hlef, [0], (List.range (m - 1).toNat).map (fun k : Nat => 1 + (k : Int)), _, ?_, ?_, ?_, rfl, rfl, rfl⟩
    · rw [upd_ne hne, upd_ne (ne_of_none upd_same hrg)]
      exact upd_same
    · rw [upd_same, List.map_map]
      rfl
    · rw [ints_cons m1]
      exact .refl _
  · rintro i σ H1 hi ⟨s1, ls, lf, x, h1, h2, hp, ll, l0, rfl⟩
    have lt : ls.length + lf.length = m.toNat := by
      have := hp.length_eq
      rw [List.length_append] at this
      rw [this]
      unfold upto
      rw [List.length_map, List.length_range]
    simp only [t__law_web_2_eq, t__law_web_7_eq, t__law_web_8_eq, t__law_web_9_eq, t__law_web_10_eq, rPopAt, tRng2, rListRng, rCatT, tComp_eq, rInsert, capS, rAppend, Option.bind_some, Option.bind_none, Option.join_some, Option.map_some, List.getElem?_cons_zero, List.getElem?_cons_succ, V.str.injEq, V.ty.injEq, tBM, tFor_eq, iRng1, iRng2, tSeq, tNext, tAsg, gName, tCB, tCons, tNil, tVar, tC, tOp, tTest, tIfS, tRet, tDrop, tLst, tTup, tPar, tCall, rI, rI0, rEq, rNe, rIxL, L2.start, truV_int, truV_bl, scal_int, scal_bl, List.map_cons, List.map_nil, List.length_cons, List.length_nil, List.replicate, List.cons_append, List.nil_append, List.append_nil, Option.some.injEq, exists_eq_left', exists_eq_left, exists_and_left, List.cons.injEq, V.int.injEq, V.ref.injEq, V.bl.injEq, and_true, true_and, List.set_cons_zero, List.set_cons_succ, Nat.reduceAdd, Nat.reduceSub, Int.reduceToNat, Int.reducePow, Int.reduceNeg, Int.reduceMul, Int.reduceAdd, Int.reduceSub, decide_eq_true_eq, Bool.not_eq_true', decide_eq_false_iff_not, exists_const, and_assoc, exists_eq, exists_eq', if_true, if_false, Bool.false_eq_true, Bool.true_eq_false, reduceCtorEq, not_true_eq_false, not_false_eq_true]
    refine ⟨.inl ⟨rfl, _, SqL.of h1⟩, .inl ⟨rfl, _, SqL.of h2⟩, ?_⟩
    refine ⟨p, ns, _, rfl, s1.seq hS, hl, by omega, by omega, fun r3 r30 r31 => ?_⟩
    refine ⟨_, .inl (SqL.of h2), _, rfl, ?_⟩
    rw [List.length_map]
    have z0 := Int.emod_nonneg r3 (show (lf.length : Int) ≠ 0 by omega)
    have z1 := Int.emod_lt_of_pos r3 (show 0 < (lf.length : Int) by omega)
    generalize r3 % (lf.length : Int) = k at z0 z1
    have hk : k.toNat < lf.length := by omega
    have ek : lf[k.toNat]? = some lf[k.toNat] := List.getElem?_eq_getElem hk
    refine ⟨by omega, _, h2, by omega, by omega, _, seqIx z0 (by rw [List.length_map]; exact z1), .int lf[k.toNat], by rw [List.getElem?_map, ek]; rfl, _, by rw [upd_ne hne]; exact h1, small1000 (by rw [List.length_map]; omega), ?_, ls ++ [lf[k.toNat]], ?_, lf.eraseIdx k.toNat, ?_, ?_, by rw [List.length_append, ll]; rfl, ?_⟩
    · exact (s1.put hlef0).put hlab
    · rw [upd_same, List.map_append]
      rfl
    · rw [upd_ne hne.symm, upd_same, erase_map]
    · rw [List.append_assoc]
      exact (List.Perm.append_left ls (erase_perm ek)).trans hp
    · rw [List.getElem?_append_left (by omega)]
      exact l0
  · rintro σ H1 ⟨s1, ls, lf, x, h1, h2, hp, ll, l0, rfl⟩
    have lt : ls.length + lf.length = m.toNat := by
      have := hp.length_eq
      rw [List.length_append] at this
      rw [this]
      unfold upto
      rw [List.length_map, List.length_range]
    have lf0 : lf = [] := List.eq_nil_of_length_eq_zero (by omega)
    rw [lf0, List.append_nil] at hp
    have gl : ∀ x ∈ ls, 0 ≤ x ∧ x < m := fun x hx => mem_ints.mp (hp.mem_iff.mp hx)
    have nd : ls.Nodup := hp.nodup_iff.mpr nodup_ints
    clear h2
    simp only [t__law_web_2_eq, t__law_web_7_eq, t__law_web_8_eq, t__law_web_9_eq, t__law_web_10_eq, rPopAt, tRng2, rListRng, rCatT, tComp_eq, rInsert, capS, rAppend, Option.bind_some, Option.bind_none, Option.join_some, Option.map_some, List.getElem?_cons_zero, List.getElem?_cons_succ, V.str.injEq, V.ty.injEq, tBM, tFor_eq, iRng1, iRng2, tSeq, tNext, tAsg, gName, tCB, tCons, tNil, tVar, tC, tOp, tTest, tIfS, tRet, tDrop, tLst, tTup, tPar, tCall, rI, rI0, rEq, rNe, rIxL, L2.start, truV_int, truV_bl, scal_int, scal_bl, List.map_cons, List.map_nil, List.length_cons, List.length_nil, List.replicate, List.cons_append, List.nil_append, List.append_nil, Option.some.injEq, exists_eq_left', exists_eq_left, exists_and_left, List.cons.injEq, V.int.injEq, V.ref.injEq, V.bl.injEq, and_true, true_and, List.set_cons_zero, List.set_cons_succ, Nat.reduceAdd, Nat.reduceSub, Int.reduceToNat, Int.reducePow, Int.reduceNeg, Int.reduceMul, Int.reduceAdd, Int.reduceSub, decide_eq_true_eq, Bool.not_eq_true', decide_eq_false_iff_not, exists_const, and_assoc, exists_eq, exists_eq', if_true, if_false, Bool.false_eq_true, Bool.true_eq_false, reduceCtorEq, not_true_eq_false, not_false_eq_true]
    refine ⟨by decide, fun rl hrl => ?_⟩
    refine ⟨by decide, by decide, by omega, by omega, ?_⟩
    have n1 : rl ≠ lab := (ne_of_none h1 hrl).symm
    refine for_rangeF (fun i σ H' => Same H1 H' ∧ ∃ (ts : List Addr) (rs : List Road), H' rl = some (.lst (ts.map V.ref)) ∧ Tps rdv (Off rl rl H') ts rs ∧ rs.length = i ∧ (∀ r ∈ rs, GR m r) ∧ Joins ls rs i ∧
      ∃ x1 x2 x3 x4 x5, σ = [some (.ref p), some (.int st), some (.int mo), some (.int ex), some (.int m), some (.int shp), some (.ref lab), some (.ref lef), x1, some (.ref rl), x2, x3, x4, x5, none, none]) ?_ ?_ ?_
    · exact ⟨same_new hrl _, [], [], upd_same, .nil, rfl, by simp, fun k k1 k2 => by omega, _, _, _, _, _, rfl⟩
    · rintro i σ H2 hi ⟨s2, ts, rs, hr2, ht2, lr, gr, jn, x1, x2, x3, x4, x5, rfl⟩
      have hS2 := s2.seq (s1.seq hS)
      simp only [t__law_web_2_eq, t__law_web_7_eq, t__law_web_8_eq, t__law_web_9_eq, t__law_web_10_eq, rPopAt, tRng2, rListRng, rCatT, tComp_eq, rInsert, capS, rAppend, Option.bind_some, Option.bind_none, Option.join_some, Option.map_some, List.getElem?_cons_zero, List.getElem?_cons_succ, V.str.injEq, V.ty.injEq, tBM, tFor_eq, iRng1, iRng2, tSeq, tNext, tAsg, gName, tCB, tCons, tNil, tVar, tC, tOp, tTest, tIfS, tRet, tDrop, tLst, tTup, tPar, tCall, rI, rI0, rEq, rNe, rIxL, L2.start, truV_int, truV_bl, scal_int, scal_bl, List.map_cons, List.map_nil, List.length_cons, List.length_nil, List.replicate, List.cons_append, List.nil_append, List.append_nil, Option.some.injEq, exists_eq_left', exists_eq_left, exists_and_left, List.cons.injEq, V.int.injEq, V.ref.injEq, V.bl.injEq, and_true, true_and, List.set_cons_zero, List.set_cons_succ, Nat.reduceAdd, Nat.reduceSub, Int.reduceToNat, Int.reducePow, Int.reduceNeg, Int.reduceMul, Int.reduceAdd, Int.reduceSub, decide_eq_true_eq, Bool.not_eq_true', decide_eq_false_iff_not, exists_const, and_assoc, exists_eq, exists_eq', if_true, if_false, Bool.false_eq_true, Bool.true_eq_false, reduceCtorEq, not_true_eq_false, not_false_eq_true]
      refine ⟨p, ns, _, rfl, hS2, hl, by omega, by omega, fun n n0 n1' => ?_⟩
      have em : (if (3 : Int) < 1 + (i : Int) then (3 : Int) else 1 + (i : Int)) ≤ 1 + (i : Int) ∧ 0 < (if (3 : Int) < 1 + (i : Int) then (3 : Int) else 1 + (i : Int)) := by split <;> omega
      (try simp only); first | rw [t__law_web_0_eq] | rw [t__law_web_1_eq] | rw [t__law_web_3_eq] | rw [t__law_web_4_eq] | rw [t__law_web_5_eq] | rw [t__law_web_6_eq] | rw [t__law_web_11_eq] | rw [t__law_web_12_eq]
      simp only [t__law_web_2_eq, t__law_web_7_eq, t__law_web_8_eq, t__law_web_9_eq, t__law_web_10_eq, rPopAt, tRng2, rListRng, rCatT, tComp_eq, rInsert, capS, rAppend, Option.bind_some, Option.bind_none, Option.join_some, Option.map_some, List.getElem?_cons_zero, List.getElem?_cons_succ, V.str.injEq, V.ty.injEq, tBM, tFor_eq, iRng1, iRng2, tSeq, tNext, tAsg, gName, tCB, tCons, tNil, tVar, tC, tOp, tTest, tIfS, tRet, tDrop, tLst, tTup, tPar, tCall, rI, rI0, rEq, rNe, rIxL, L2.start, truV_int, truV_bl, scal_int, scal_bl, List.map_cons, List.map_nil, List.length_cons, List.length_nil, List.replicate, List.cons_append, List.nil_append, List.append_nil, Option.some.injEq, exists_eq_left', exists_eq_left, exists_and_left, List.cons.injEq, V.int.injEq, V.ref.injEq, V.bl.injEq, and_true, true_and, List.set_cons_zero, List.set_cons_succ, Nat.reduceAdd, Nat.reduceSub, Int.reduceToNat, Int.reducePow, Int.reduceNeg, Int.reduceMul, Int.reduceAdd, Int.reduceSub, decide_eq_true_eq, Bool.not_eq_true', decide_eq_false_iff_not, exists_const, and_assoc, exists_eq, exists_eq', if_true, if_false, Bool.false_eq_true, Bool.true_eq_false, reduceCtorEq, not_true_eq_false, not_false_eq_true]
      generalize (if (3 : Int) < 1 + (i : Int) then (3 : Int) else 1 + (i : Int)) = mn at em ⊢
      refine ⟨by omega, em.2, by decide, fun a1 ha1 => ?_⟩
      have s3 := same_new ha1 (.lst [V.int (n % (1 + (i : Int))), V.int (1 + (i : Int) - 1), V.int 0, V.int (n % mn)])
      have h3 : (L2.upd H2 a1 (.lst [V.int (n % (1 + (i : Int))), V.int (1 + (i : Int) - 1), V.int 0, V.int (n % mn)])) a1 = some (.lst [V.int (n % (1 + (i : Int))), V.int (1 + (i : Int) - 1), V.int 0, V.int (n % mn)]) := upd_same
      generalize L2.upd H2 a1 (.lst [V.int (n % (1 + (i : Int))), V.int (1 + (i : Int) - 1), V.int 0, V.int (n % mn)]) = H3 at s3 h3 ⊢
      obtain ⟨jx, hj, hjc⟩ := at4 (a := n % (1 + (i : Int))) (b := 1 + (i : Int) - 1) (c := 0) (d := n % mn) sh0 sh4
      have j0 : 0 ≤ jx ∧ jx < 1 + (i : Int) := by
        have z1 := Int.emod_nonneg n (show (1 + (i : Int)) ≠ 0 by omega)
        have z2 := Int.emod_lt_of_pos n (show 0 < (1 + (i : Int)) by omega)
        have z3 := Int.emod_nonneg n (show mn ≠ 0 by omega)
        have z4 := Int.emod_lt_of_pos n (show 0 < mn by omega)
        omega
      clear hjc
      obtain ⟨ot, ho, ho2⟩ := at_int (ns := ls) j0.1 (by omega)
      obtain ⟨me, hm, hm2⟩ := at_int (ns := ls) (k := 1 + (i : Int)) (by omega) (by omega)
      have h13 := s3 _ _ (s2 _ _ h1)
      refine ⟨_, SqL.of h3, _, hj, _, _, rfl, SqL.of h13, _, ho, ?_⟩
      (try simp only); first | rw [t__law_web_0_eq] | rw [t__law_web_1_eq] | rw [t__law_web_3_eq] | rw [t__law_web_4_eq] | rw [t__law_web_5_eq] | rw [t__law_web_6_eq] | rw [t__law_web_11_eq] | rw [t__law_web_12_eq]
      simp only [t__law_web_2_eq, t__law_web_7_eq, t__law_web_8_eq, t__law_web_9_eq, t__law_web_10_eq, rPopAt, tRng2, rListRng, rCatT, tComp_eq, rInsert, capS, rAppend, Option.bind_some, Option.bind_none, Option.join_some, Option.map_some, List.getElem?_cons_zero, List.getElem?_cons_succ, V.str.injEq, V.ty.injEq, tBM, tFor_eq, iRng1, iRng2, tSeq, tNext, tAsg, gName, tCB, tCons, tNil, tVar, tC, tOp, tTest, tIfS, tRet, tDrop, tLst, tTup, tPar, tCall, rI, rI0, rEq, rNe, rIxL, L2.start, truV_int, truV_bl, scal_int, scal_bl, List.map_cons, List.map_nil, List.length_cons, List.length_nil, List.replicate, List.cons_append, List.nil_append, List.append_nil, Option.some.injEq, exists_eq_left', exists_eq_left, exists_and_left, List.cons.injEq, V.int.injEq, V.ref.injEq, V.bl.injEq, and_true, true_and, List.set_cons_zero, List.set_cons_succ, Nat.reduceAdd, Nat.reduceSub, Int.reduceToNat, Int.reducePow, Int.reduceNeg, Int.reduceMul, Int.reduceAdd, Int.reduceSub, decide_eq_true_eq, Bool.not_eq_true', decide_eq_false_iff_not, exists_const, and_assoc, exists_eq, exists_eq', if_true, if_false, Bool.false_eq_true, Bool.true_eq_false, reduceCtorEq, not_true_eq_false, not_false_eq_true]
      refine ⟨_, SqL.of h13, _, hm, by decide, fun a2 ha2 => ?_⟩
      have s4 := same_new ha2 (.tup [V.int me, V.int ot])
      have h4 : (L2.upd H3 a2 (.tup [V.int me, V.int ot])) a2 = some (.tup [V.int me, V.int ot]) := upd_same
      generalize L2.upd H3 a2 (.tup [V.int me, V.int ot]) = H4 at s4 h4 ⊢
      have h14 := s4 _ _ h13
      refine ⟨_, SqL.of h14, _, hm, by decide, fun a3 ha3 => ?_⟩
      have s5 := same_new ha3 (.tup [V.int ot, V.int me])
      have h5 : (L2.upd H4 a3 (.tup [V.int ot, V.int me])) a3 = some (.tup [V.int ot, V.int me]) := upd_same
      generalize L2.upd H4 a3 (.tup [V.int ot, V.int me]) = H5 at s5 h5 ⊢
      refine ⟨by decide, fun a4 ha4 => ?_⟩
      have s6 := same_new ha4 (.lst [V.ref a2, V.ref a3])
      have h6 : (L2.upd H5 a4 (.lst [V.ref a2, V.ref a3])) a4 = some (.lst [V.ref a2, V.ref a3]) := upd_same
      generalize L2.upd H5 a4 (.lst [V.ref a2, V.ref a3]) = H6 at s6 h6 ⊢
      obtain ⟨e, he, hec⟩ := at2 (x := V.ref a2) (y := V.ref a3) (r := n / (1 + (i : Int)) % 2) (by omega) (by omega)
      obtain ⟨ea, u, v, rfl, hea, huv⟩ : ∃ (ea : Addr) (u v : Int), e = .ref ea ∧ H6 ea = some (.tup [V.int u, V.int v]) ∧ ((u = me ∧ v = ot) ∨ (u = ot ∧ v = me)) := by
        rcases hec with rfl | rfl
        · exact ⟨a2, me, ot, rfl, s6 _ _ (s5 _ _ h4), .inl ⟨rfl, rfl⟩⟩
        · exact ⟨a3, ot, me, rfl, s6 _ _ h5, .inr ⟨rfl, rfl⟩⟩
      have s26 := s3.trans (s4.trans (s5.trans s6))
      have hr6 := s26 _ _ hr2
      have ht6 := ht2.same (off_same rl rl s26)
      have gme := gl me (mem_at hm2)
      have got := gl ot (mem_at ho2)
      have dif : ot ≠ me := nodup_at nd ho2 hm2 (by omega)
      refine ⟨by omega, log_lt 6 (by omega) (show (1 + (i : Int)).natAbs < 64 by omega), by decide, _, SqL.of h6, _, he, ?_⟩
      (try simp only); first | rw [t__law_web_0_eq] | rw [t__law_web_1_eq] | rw [t__law_web_3_eq] | rw [t__law_web_4_eq] | rw [t__law_web_5_eq] | rw [t__law_web_6_eq] | rw [t__law_web_11_eq] | rw [t__law_web_12_eq]
      simp only [t__law_web_2_eq, t__law_web_7_eq, t__law_web_8_eq, t__law_web_9_eq, t__law_web_10_eq, rPopAt, tRng2, rListRng, rCatT, tComp_eq, rInsert, capS, rAppend, Option.bind_some, Option.bind_none, Option.join_some, Option.map_some, List.getElem?_cons_zero, List.getElem?_cons_succ, V.str.injEq, V.ty.injEq, tBM, tFor_eq, iRng1, iRng2, tSeq, tNext, tAsg, gName, tCB, tCons, tNil, tVar, tC, tOp, tTest, tIfS, tRet, tDrop, tLst, tTup, tPar, tCall, rI, rI0, rEq, rNe, rIxL, L2.start, truV_int, truV_bl, scal_int, scal_bl, List.map_cons, List.map_nil, List.length_cons, List.length_nil, List.replicate, List.cons_append, List.nil_append, List.append_nil, Option.some.injEq, exists_eq_left', exists_eq_left, exists_and_left, List.cons.injEq, V.int.injEq, V.ref.injEq, V.bl.injEq, and_true, true_and, List.set_cons_zero, List.set_cons_succ, Nat.reduceAdd, Nat.reduceSub, Int.reduceToNat, Int.reducePow, Int.reduceNeg, Int.reduceMul, Int.reduceAdd, Int.reduceSub, decide_eq_true_eq, Bool.not_eq_true', decide_eq_false_iff_not, exists_const, and_assoc, exists_eq, exists_eq', if_true, if_false, Bool.false_eq_true, Bool.true_eq_false, reduceCtorEq, not_true_eq_false, not_false_eq_true]
      refine ⟨p, ns, _, rfl, s26.seq hS2, hl, by omega, by omega, fun n3 n30 n31 => ?_⟩
      refine ⟨_, .inl (SqL.of hr6), _, rfl, by omega, ?_⟩
      rw [List.length_map]
      have z0 := Int.emod_nonneg n3 (show (ts.length : Int) + 1 ≠ 0 by omega)
      have z1 := Int.emod_lt_of_pos n3 (show 0 < (ts.length : Int) + 1 by omega)
      generalize n3 % ((ts.length : Int) + 1) = k at z0 z1
      (try simp only); first | rw [t__law_web_0_eq] | rw [t__law_web_1_eq] | rw [t__law_web_3_eq] | rw [t__law_web_4_eq] | rw [t__law_web_5_eq] | rw [t__law_web_6_eq] | rw [t__law_web_11_eq] | rw [t__law_web_12_eq]
      simp only [t__law_web_2_eq, t__law_web_7_eq, t__law_web_8_eq, t__law_web_9_eq, t__law_web_10_eq, rPopAt, tRng2, rListRng, rCatT, tComp_eq, rInsert, capS, rAppend, Option.bind_some, Option.bind_none, Option.join_some, Option.map_some, List.getElem?_cons_zero, List.getElem?_cons_succ, V.str.injEq, V.ty.injEq, tBM, tFor_eq, iRng1, iRng2, tSeq, tNext, tAsg, gName, tCB, tCons, tNil, tVar, tC, tOp, tTest, tIfS, tRet, tDrop, tLst, tTup, tPar, tCall, rI, rI0, rEq, rNe, rIxL, L2.start, truV_int, truV_bl, scal_int, scal_bl, List.map_cons, List.map_nil, List.length_cons, List.length_nil, List.replicate, List.cons_append, List.nil_append, List.append_nil, Option.some.injEq, exists_eq_left', exists_eq_left, exists_and_left, List.cons.injEq, V.int.injEq, V.ref.injEq, V.bl.injEq, and_true, true_and, List.set_cons_zero, List.set_cons_succ, Nat.reduceAdd, Nat.reduceSub, Int.reduceToNat, Int.reducePow, Int.reduceNeg, Int.reduceMul, Int.reduceAdd, Int.reduceSub, decide_eq_true_eq, Bool.not_eq_true', decide_eq_false_iff_not, exists_const, and_assoc, exists_eq, exists_eq', if_true, if_false, Bool.false_eq_true, Bool.true_eq_false, reduceCtorEq, not_true_eq_false, not_false_eq_true]
      refine ⟨.inl ⟨rfl, _, SqL.of hr6⟩, by omega, log_lt 6 (by omega) (show (1 + (i : Int)).natAbs < 64 by omega), log2'.1, log2'.2, ?_⟩
      refine ⟨_, rfl, fun le H7 s7 le1 le2 => ⟨by decide, fun a5 ha5 => ?_⟩⟩
      have s8 := same_new ha5 (.tup [V.int le])
      have h8 : (L2.upd H7 a5 (.tup [V.int le])) a5 = some (.tup [V.int le]) := upd_same
      generalize L2.upd H7 a5 (.tup [V.int le]) = H8 at s8 h8 ⊢
      have s68 := s7.trans s8
      refine ⟨_, SqT.of (s68 _ _ hea), _, SqT.of h8, by simp, (show (3 : Nat) ≤ sizeLine by decide), fun z => by simp at z, fun _ a6 ha6 => ?_⟩
      rw [List.cons_append, List.cons_append, List.nil_append]
      have s9 := same_new ha6 (.tup [V.int u, V.int v, V.int le])
      have h9 : (L2.upd H8 a6 (.tup [V.int u, V.int v, V.int le])) a6 = some (.tup [V.int u, V.int v, V.int le]) := upd_same
      generalize L2.upd H8 a6 (.tup [V.int u, V.int v, V.int le]) = H9 at s9 h9 ⊢
      have s69 := s68.trans s9
      have hr9 := s69 _ _ hr6
      have ht9 := ht6.same (off_same rl rl s69)
      have ltl := ht9.1
      have big : (1000 : Nat) < 1000000 := by decide
      refine ⟨_, hr9, z0, by rw [List.length_map]; omega, by rw [List.length_map]; omega, ?_⟩
      have n6 : a6 ≠ rl := (ne_of_none (s68 _ _ hr6) ha6).symm
      have h9' : Off rl rl H9 a6 = some (.tup (rdv (u, v, le))) := by rw [off_at n6 n6]; exact h9
      refine ⟨?_, insAt ts k.toNat a6, ?_, insAt rs k.toNat (u, v, le), ?_, ?_, fun r hr => ?_, ?_⟩
      · exact (s2.trans (s26.trans s69)).put hrl
      · rw [upd_same, insAt_map]
        rfl
      · rw [off_p]
        exact ht9.ins (by omega) h9'
      · rw [insAt_len (by omega), lr]
      · rcases insAt_mem.mp hr with rfl | hr
        · unfold GR
          rcases huv with ⟨rfl, rfl⟩ | ⟨rfl, rfl⟩
          · exact ⟨gme.1, gme.2, got.1, got.2, dif.symm, le1, le2⟩
          · exact ⟨got.1, got.2, gme.1, gme.2, dif, le1, le2⟩
        · exact gr r hr
      · intro k' k1 k2
        by_cases c : k' ≤ i
        · obtain ⟨r, hr, w⟩ := jn k' k1 c
          exact ⟨r, insAt_mem.mpr (.inr hr), w⟩
        · have ek' : k' = i + 1 := by omega
          subst ek'
          refine ⟨(u, v, le), insAt_mem.mpr (.inl rfl), jx.toNat, by omega, ?_⟩
          have hm3 : ls[i + 1]? = some me := by
            have := hm2
            rw [show (1 + (i : Int)).toNat = i + 1 by omega] at this
            exact this
          rcases huv with ⟨rfl, rfl⟩ | ⟨rfl, rfl⟩
          · exact .inl ⟨hm3, ho2⟩
          · exact .inr ⟨hm3, ho2⟩
    · rintro σ H2 ⟨s2, ts, rs, hr2, ht2, lr, gr, jn, x1, x2, x3, x4, x5, rfl⟩
      have hS2 := s2.seq (s1.seq hS)
      have emn : m = ((m - 1).toNat : Int) + 1 := by omega
      simp only [t__law_web_2_eq, t__law_web_7_eq, t__law_web_8_eq, t__law_web_9_eq, t__law_web_10_eq, rPopAt, tRng2, rListRng, rCatT, tComp_eq, rInsert, capS, rAppend, Option.bind_some, Option.bind_none, Option.join_some, Option.map_some, List.getElem?_cons_zero, List.getElem?_cons_succ, V.str.injEq, V.ty.injEq, tBM, tFor_eq, iRng1, iRng2, tSeq, tNext, tAsg, gName, tCB, tCons, tNil, tVar, tC, tOp, tTest, tIfS, tRet, tDrop, tLst, tTup, tPar, tCall, rI, rI0, rEq, rNe, rIxL, L2.start, truV_int, truV_bl, scal_int, scal_bl, List.map_cons, List.map_nil, List.length_cons, List.length_nil, List.replicate, List.cons_append, List.nil_append, List.append_nil, Option.some.injEq, exists_eq_left', exists_eq_left, exists_and_left, List.cons.injEq, V.int.injEq, V.ref.injEq, V.bl.injEq, and_true, true_and, List.set_cons_zero, List.set_cons_succ, Nat.reduceAdd, Nat.reduceSub, Int.reduceToNat, Int.reducePow, Int.reduceNeg, Int.reduceMul, Int.reduceAdd, Int.reduceSub, decide_eq_true_eq, Bool.not_eq_true', decide_eq_false_iff_not, exists_const, and_assoc, exists_eq, exists_eq', if_true, if_false, Bool.false_eq_true, Bool.true_eq_false, reduceCtorEq, not_true_eq_false, not_false_eq_true]
      refine ⟨p, ns, _, rfl, hS2, hl, by omega, by omega, fun n n0 n1' => ?_⟩
      have z0 := Int.emod_nonneg n (show ex + 1 ≠ 0 by omega)
      have z1 := Int.emod_lt_of_pos n (show 0 < ex + 1 by omega)
      refine ⟨_, rfl, by omega, by omega, by omega, ?_⟩
      generalize n % (ex + 1) = cnt at z0 z1 ⊢
      refine for_rangeF (fun i σ H' => Same H1 H' ∧ ∃ (ts : List Addr) (rs : List Road), H' rl = some (.lst (ts.map V.ref)) ∧ Tps rdv (Off rl rl H') ts rs ∧ m - 1 ≤ (rs.length : Int) ∧ (rs.length : Int) ≤ m - 1 + i ∧ (∀ r ∈ rs, GR m r) ∧ Joins ls rs (m - 1).toNat ∧
        ∃ x1 x2 x3 x4 x5 x6 x7, σ = [some (.ref p), some (.int st), some (.int mo), some (.int ex), some (.int m), some (.int shp), some (.ref lab), some (.ref lef), x1, some (.ref rl), x2, x3, x4, x5, x6, x7]) ?_ ?_ ?_
      · exact ⟨s2, ts, rs, hr2, ht2, by omega, by omega, gr, jn, _, _, _, _, _, _, _, rfl⟩
      · rintro i σ H3 hi ⟨s3, ts, rs, hr3, ht3, lr1, lr2, gr, jn, y1, y2, y3, y4, y5, y6, y7, rfl⟩
        have hS3 := s3.seq (s1.seq hS)
        have lt3 := ht3.1
        simp only [t__law_web_2_eq, t__law_web_7_eq, t__law_web_8_eq, t__law_web_9_eq, t__law_web_10_eq, rPopAt, tRng2, rListRng, rCatT, tComp_eq, rInsert, capS, rAppend, Option.bind_some, Option.bind_none, Option.join_some, Option.map_some, List.getElem?_cons_zero, List.getElem?_cons_succ, V.str.injEq, V.ty.injEq, tBM, tFor_eq, iRng1, iRng2, tSeq, tNext, tAsg, gName, tCB, tCons, tNil, tVar, tC, tOp, tTest, tIfS, tRet, tDrop, tLst, tTup, tPar, tCall, rI, rI0, rEq, rNe, rIxL, L2.start, truV_int, truV_bl, scal_int, scal_bl, List.map_cons, List.map_nil, List.length_cons, List.length_nil, List.replicate, List.cons_append, List.nil_append, List.append_nil, Option.some.injEq, exists_eq_left', exists_eq_left, exists_and_left, List.cons.injEq, V.int.injEq, V.ref.injEq, V.bl.injEq, and_true, true_and, List.set_cons_zero, List.set_cons_succ, Nat.reduceAdd, Nat.reduceSub, Int.reduceToNat, Int.reducePow, Int.reduceNeg, Int.reduceMul, Int.reduceAdd, Int.reduceSub, decide_eq_true_eq, Bool.not_eq_true', decide_eq_false_iff_not, exists_const, and_assoc, exists_eq, exists_eq', if_true, if_false, Bool.false_eq_true, Bool.true_eq_false, reduceCtorEq, not_true_eq_false, not_false_eq_true]
        refine ⟨p, ns, _, rfl, hS3, hl, by omega, by omega, fun n2 n20 n21 => ?_⟩
        (try simp only); first | rw [t__law_web_0_eq] | rw [t__law_web_1_eq] | rw [t__law_web_3_eq] | rw [t__law_web_4_eq] | rw [t__law_web_5_eq] | rw [t__law_web_6_eq] | rw [t__law_web_11_eq] | rw [t__law_web_12_eq]
        simp only [t__law_web_2_eq, t__law_web_7_eq, t__law_web_8_eq, t__law_web_9_eq, t__law_web_10_eq, rPopAt, tRng2, rListRng, rCatT, tComp_eq, rInsert, capS, rAppend, Option.bind_some, Option.bind_none, Option.join_some, Option.map_some, List.getElem?_cons_zero, List.getElem?_cons_succ, V.str.injEq, V.ty.injEq, tBM, tFor_eq, iRng1, iRng2, tSeq, tNext, tAsg, gName, tCB, tCons, tNil, tVar, tC, tOp, tTest, tIfS, tRet, tDrop, tLst, tTup, tPar, tCall, rI, rI0, rEq, rNe, rIxL, L2.start, truV_int, truV_bl, scal_int, scal_bl, List.map_cons, List.map_nil, List.length_cons, List.length_nil, List.replicate, List.cons_append, List.nil_append, List.append_nil, Option.some.injEq, exists_eq_left', exists_eq_left, exists_and_left, List.cons.injEq, V.int.injEq, V.ref.injEq, V.bl.injEq, and_true, true_and, List.set_cons_zero, List.set_cons_succ, Nat.reduceAdd, Nat.reduceSub, Int.reduceToNat, Int.reducePow, Int.reduceNeg, Int.reduceMul, Int.reduceAdd, Int.reduceSub, decide_eq_true_eq, Bool.not_eq_true', decide_eq_false_iff_not, exists_const, and_assoc, exists_eq, exists_eq', if_true, if_false, Bool.false_eq_true, Bool.true_eq_false, reduceCtorEq, not_true_eq_false, not_false_eq_true]
        refine ⟨by omega, by omega, log_lt 6 (by omega) (show m.natAbs < 64 by omega), by omega, ?_⟩
        have a0 := Int.emod_nonneg n2 (show m ≠ 0 by omega)
        have a1 := Int.emod_lt_of_pos n2 (show 0 < m by omega)
        have b0 := Int.emod_nonneg (n2 / m) (show m ≠ 0 by omega)
        have b1 := Int.emod_lt_of_pos (n2 / m) (show 0 < m by omega)
        generalize n2 % m = av at a0 a1
        generalize n2 / m % m = bv at b0 b1
        (try simp only); first | rw [t__law_web_0_eq] | rw [t__law_web_1_eq] | rw [t__law_web_3_eq] | rw [t__law_web_4_eq] | rw [t__law_web_5_eq] | rw [t__law_web_6_eq] | rw [t__law_web_11_eq] | rw [t__law_web_12_eq]
        simp only [t__law_web_2_eq, t__law_web_7_eq, t__law_web_8_eq, t__law_web_9_eq, t__law_web_10_eq, rPopAt, tRng2, rListRng, rCatT, tComp_eq, rInsert, capS, rAppend, Option.bind_some, Option.bind_none, Option.join_some, Option.map_some, List.getElem?_cons_zero, List.getElem?_cons_succ, V.str.injEq, V.ty.injEq, tBM, tFor_eq, iRng1, iRng2, tSeq, tNext, tAsg, gName, tCB, tCons, tNil, tVar, tC, tOp, tTest, tIfS, tRet, tDrop, tLst, tTup, tPar, tCall, rI, rI0, rEq, rNe, rIxL, L2.start, truV_int, truV_bl, scal_int, scal_bl, List.map_cons, List.map_nil, List.length_cons, List.length_nil, List.replicate, List.cons_append, List.nil_append, List.append_nil, Option.some.injEq, exists_eq_left', exists_eq_left, exists_and_left, List.cons.injEq, V.int.injEq, V.ref.injEq, V.bl.injEq, and_true, true_and, List.set_cons_zero, List.set_cons_succ, Nat.reduceAdd, Nat.reduceSub, Int.reduceToNat, Int.reducePow, Int.reduceNeg, Int.reduceMul, Int.reduceAdd, Int.reduceSub, decide_eq_true_eq, Bool.not_eq_true', decide_eq_false_iff_not, exists_const, and_assoc, exists_eq, exists_eq', if_true, if_false, Bool.false_eq_true, Bool.true_eq_false, reduceCtorEq, not_true_eq_false, not_false_eq_true]
        refine ite2 (fun c => ?_) (fun c => ⟨s3, ts, hr3, rs, ht3, lr1, by omega, gr, jn⟩)
        refine ⟨.inl ⟨rfl, _, SqL.of hr3⟩, log3600.1, log3600.2, _, .inl (SqL.of hr3), by omega, log100.1, log100.2, ?_⟩
        rw [List.length_map]
        have k0 := Int.emod_nonneg (n2 / 3600) (show (ts.length : Int) + 1 ≠ 0 by omega)
        have k1 := Int.emod_lt_of_pos (n2 / 3600) (show 0 < (ts.length : Int) + 1 by omega)
        generalize n2 / 3600 % ((ts.length : Int) + 1) = k at k0 k1
        refine ⟨_, rfl, fun le H7 s7 le1 le2 => ⟨by decide, fun a6 ha6 => ?_⟩⟩
        have s9 := same_new ha6 (.tup [V.int av, V.int bv, V.int le])
        have h9 : (L2.upd H7 a6 (.tup [V.int av, V.int bv, V.int le])) a6 = some (.tup [V.int av, V.int bv, V.int le]) := upd_same
        generalize L2.upd H7 a6 (.tup [V.int av, V.int bv, V.int le]) = H9 at s9 h9 ⊢
        have s69 := s7.trans s9
        have hr9 := s69 _ _ hr3
        have ht9 := ht3.same (off_same rl rl s69)
        have ltl := ht9.1
        have big : (1000 : Nat) < 1000000 := by decide
        refine ⟨_, hr9, k0, by rw [List.length_map]; omega, by rw [List.length_map]; omega, ?_⟩
        have n6 : a6 ≠ rl := (ne_of_none (s7 _ _ hr3) ha6).symm
        have h9' : Off rl rl H9 a6 = some (.tup (rdv (av, bv, le))) := by rw [off_at n6 n6]; exact h9
        refine ⟨(s3.trans s69).put hrl, insAt ts k.toNat a6, ?_, insAt rs k.toNat (av, bv, le), ?_, ?_, ?_, fun r hr => ?_, ?_⟩
        · rw [upd_same, insAt_map]
          rfl
        · rw [off_p]
          exact ht9.ins (by omega) h9'
        · rw [insAt_len (by omega)]
          omega
        · rw [insAt_len (by omega)]
          omega
        · rcases insAt_mem.mp hr with rfl | hr
          · exact ⟨a0, a1, b0, b1, c, le1, le2⟩
          · exact gr r hr
        · exact jn.mono fun r hr => insAt_mem.mpr (.inr hr)
      · rintro σ H3 ⟨s3, ts, rs, hr3, ht3, lr1, lr2, gr, jn, y1, y2, y3, y4, y5, y6, y7, rfl⟩
        simp only [t__law_web_2_eq, t__law_web_7_eq, t__law_web_8_eq, t__law_web_9_eq, t__law_web_10_eq, rPopAt, tRng2, rListRng, rCatT, tComp_eq, rInsert, capS, rAppend, Option.bind_some, Option.bind_none, Option.join_some, Option.map_some, List.getElem?_cons_zero, List.getElem?_cons_succ, V.str.injEq, V.ty.injEq, tBM, tFor_eq, iRng1, iRng2, tSeq, tNext, tAsg, gName, tCB, tCons, tNil, tVar, tC, tOp, tTest, tIfS, tRet, tDrop, tLst, tTup, tPar, tCall, rI, rI0, rEq, rNe, rIxL, L2.start, truV_int, truV_bl, scal_int, scal_bl, List.map_cons, List.map_nil, List.length_cons, List.length_nil, List.replicate, List.cons_append, List.nil_append, List.append_nil, Option.some.injEq, exists_eq_left', exists_eq_left, exists_and_left, List.cons.injEq, V.int.injEq, V.ref.injEq, V.bl.injEq, and_true, true_and, List.set_cons_zero, List.set_cons_succ, Nat.reduceAdd, Nat.reduceSub, Int.reduceToNat, Int.reducePow, Int.reduceNeg, Int.reduceMul, Int.reduceAdd, Int.reduceSub, decide_eq_true_eq, Bool.not_eq_true', decide_eq_false_iff_not, exists_const, and_assoc, exists_eq, exists_eq', if_true, if_false, Bool.false_eq_true, Bool.true_eq_false, reduceCtorEq, not_true_eq_false, not_false_eq_true]
        refine ⟨by decide, fun w hw => ?_⟩
        refine q w rl ts m rs _ ((s1.trans s3).add hw) ⟨upd_same, same_new hw _ _ _ hr3, (ht3.same (off_le rl rl H3)).same (same_new hw _)⟩ ⟨m1, by omega, by omega, gr, jn.conn emn hp l0⟩ m2 (by omega) lr1
theorem sc__law_web : FnScope ["_law_script", "_law_start", "_law_most", "_law_extra", "_law_many", "_law_shape", "_law_labels", "_law_left", "_law_k", "_law_roads", "_law_number", "_law_other", "_law_ends", "_law_at", "_law_a", "_law_b"] ["_law_script", "_law_start", "_law_most", "_law_extra"] (defScope s__law_web) := ⟨rfl, rfl, rfl, by decide +kernel, rfl, by decide +kernel, by decide +kernel⟩
theorem ok__law_web (T : Txt K mg a) : FnOk P w K mg base CX0 2 a.f__law_web a.d__law_web ["_law_script", "_law_start", "_law_most", "_law_extra"] (spWeb K) := by
  have G__law_length := ok__law_length (P := P) (w := w) (base := base) T
  have G__law_mixed := ok__law_mixed (P := P) (w := w) (base := base) T
  refine T.F__law_web.ok sc__law_web (fun vs H Q E h => ?_) (fun cdv A outer s H vs Q E hr h => ?_)
  · obtain ⟨p, ns, st, mo, ex, rfl, hS, hl, st0, st1, mo1, mo60, ex0, ex20, q⟩ := h
    rfl
  obtain ⟨p, ns, st, mo, ex, rfl, hS, hl, st0, st1, mo1, mo60, ex0, ex20, q⟩ := h
  exact ⟨t__law_web K, (pss_cons (ps_set (i := 4) sc__law_web.nd rfl (Or.inl rfl) (pe_op op_add pe_int (pe_op op_mod (pe_call G__law_mixed (hr.mono (by decide)) rfl T.m__law_mixed T.F__law_mixed.kp T.b__law_mixed .nil pass0 (pa_cons (pv 0) (pa_cons (pv 1) pa_nil))) (pv 2))))
  (pss_cons (ps_set (i := 5) sc__law_web.nd rfl (Or.inl rfl) (pe_op op_mod (pe_op op_fdivP (pe_call G__law_mixed (hr.mono (by decide)) rfl T.m__law_mixed T.F__law_mixed.kp T.b__law_mixed .nil pass0 (pa_cons (pv 0) (pa_cons (pv 1) pa_nil))) (pv 2)) pe_int))
  (pss_cons (ps_set (i := 6) sc__law_web.nd rfl (Or.inl rfl) (pe_lst (pa_cons pe_int pa_nil)))
  (pss_cons (ps_set (i := 7) sc__law_web.nd rfl (Or.inl rfl) (pe_callTy (call_list_rng rfl) rfl T.z_list boot_list (pa_cons (pe_rng2 rfl T.z_range (pa_cons pe_int (pa_cons (pv 4) pa_nil))) pa_nil)))
  (pss_cons (ps_for PassesOwn.never rfl (pi_range1 rfl T.z_range (pa_cons (pe_op op_sub (pv 4) pe_int) pa_nil)) (pg_name (i := 8) sc__law_web.nd rfl (Or.inl rfl))
  (pss_one (ps_expr (pe_bm PySem.F.plainAttrs_list PySem.F.slot_list_append PySem.F.type_list_append mt_append (pv 6) (pa_cons (pe_bm PySem.F.plainAttrs_list PySem.F.slot_list_pop PySem.F.type_list_pop mt_popAt (pv 7) (pa_cons (pe_op op_mod (pe_call G__law_mixed (hr.mono (by decide)) rfl T.m__law_mixed T.F__law_mixed.kp T.b__law_mixed .nil pass0 (pa_cons (pv 0) (pa_cons (pe_op op_add (pe_op op_add (pv 1) pe_int) (pv 8)) pa_nil))) (pe_callB call_len_seq rfl T.z_len PySem.boot_len (pa_cons (pv 7) pa_nil))) pa_nil)) pa_nil)))))
  (pss_cons (ps_set (i := 9) sc__law_web.nd rfl (Or.inl rfl) (pe_lst pa_nil))
  (pss_cons (ps_for PassesOwn.never rfl (pi_range2 rfl T.z_range (pa_cons pe_int (pa_cons (pv 4) pa_nil))) (pg_name (i := 8) sc__law_web.nd rfl (Or.inl rfl))
  (pss_cons (ps_set (i := 10) sc__law_web.nd rfl (Or.inl rfl) (pe_call G__law_mixed (hr.mono (by decide)) rfl T.m__law_mixed T.F__law_mixed.kp T.b__law_mixed .nil pass0 (pa_cons (pv 0) (pa_cons (pe_op op_add (pe_op op_add (pv 1) pe_int) (pv 8)) pa_nil))))
  (pss_cons (ps_set (i := 11) sc__law_web.nd rfl (Or.inl rfl) (pe_ix ix_list (pv 6) (pe_ix ix_list (pe_lst (pa_cons (pe_op op_mod (pv 10) (pv 8)) (pa_cons (pe_op op_sub (pv 8) pe_int) (pa_cons pe_int (pa_cons (pe_op op_mod (pv 10) (pe_callB (call_min2 rfl) rfl T.z_min PyProof.Rows.boot_min (pa_cons (pv 8) (pa_cons pe_int pa_nil)))) pa_nil))))) (pv 5) (fun _ _ => rfl)) (fun _ _ => rfl)))
  (pss_cons (ps_set (i := 12) sc__law_web.nd rfl (Or.inl rfl) (pe_ix ix_list (pe_lst (pa_cons (pe_tup (pa_cons (pe_ix ix_list (pv 6) (pv 8) (fun _ _ => rfl)) (pa_cons (pv 11) pa_nil))) (pa_cons (pe_tup (pa_cons (pv 11) (pa_cons (pe_ix ix_list (pv 6) (pv 8) (fun _ _ => rfl)) pa_nil))) pa_nil))) (pe_op op_mod (pe_op op_fdivP (pv 10) (pv 8)) pe_int) (fun _ _ => rfl)))
  (pss_cons (ps_set (i := 13) sc__law_web.nd rfl (Or.inl rfl) (pe_op op_mod (pe_call G__law_mixed (hr.mono (by decide)) rfl T.m__law_mixed T.F__law_mixed.kp T.b__law_mixed .nil pass0 (pa_cons (pv 0) (pa_cons (pe_op op_add (pe_op op_add (pv 1) pe_int) (pv 8)) pa_nil))) (pe_op op_add (pe_callB call_len_seq rfl T.z_len PySem.boot_len (pa_cons (pv 9) pa_nil)) pe_int)))
  (pss_one (ps_expr (pe_bm PySem.F.plainAttrs_list PySem.F.slot_list_insert PySem.F.type_list_insert mt_insert (pv 9) (pa_cons (pv 13) (pa_cons (pe_op op_catT (pv 12) (pe_tup (pa_cons (pe_call G__law_length (hr.mono (by decide)) rfl T.m__law_length T.F__law_length.kp T.b__law_length .nil pass0 (pa_cons (pe_op op_fdivP (pe_op op_fdivP (pv 10) (pv 8)) pe_int) pa_nil)) pa_nil))) pa_nil))))))))))
  (pss_cons (ps_for PassesOwn.never rfl (pi_range1 rfl T.z_range (pa_cons (pe_op op_mod (pe_call G__law_mixed (hr.mono (by decide)) rfl T.m__law_mixed T.F__law_mixed.kp T.b__law_mixed .nil pass0 (pa_cons (pv 0) (pa_cons (pe_op op_add (pv 1) pe_int) pa_nil))) (pe_op op_add (pv 3) pe_int)) pa_nil)) (pg_name (i := 8) sc__law_web.nd rfl (Or.inl rfl))
  (pss_cons (ps_set (i := 10) sc__law_web.nd rfl (Or.inl rfl) (pe_call G__law_mixed (hr.mono (by decide)) rfl T.m__law_mixed T.F__law_mixed.kp T.b__law_mixed .nil pass0 (pa_cons (pv 0) (pa_cons (pe_op op_add (pe_op op_add (pv 1) pe_int) (pv 8)) pa_nil))))
  (pss_cons (ps_par (i := 14) (j := 15) rfl sc__law_web.nd rfl rfl (by decide) rfl rfl (pa_cons (pe_op op_mod (pv 10) (pv 4)) (pa_cons (pe_op op_mod (pe_op op_fdivP (pv 10) (pv 4)) (pv 4)) pa_nil)) rfl)
  (pss_one (ps_if (pt_cmpR op_ne (pv 14) (pv 15) (nomark _)) (pss_one (ps_expr (pe_bm PySem.F.plainAttrs_list PySem.F.slot_list_insert PySem.F.type_list_insert mt_insert (pv 9) (pa_cons (pe_op op_mod (pe_op op_fdivP (pv 10) pe_int) (pe_op op_add (pe_callB call_len_seq rfl T.z_len PySem.boot_len (pa_cons (pv 9) pa_nil)) pe_int)) (pa_cons (pe_tup (pa_cons (pv 14) (pa_cons (pv 15) (pa_cons (pe_call G__law_length (hr.mono (by decide)) rfl T.m__law_length T.F__law_length.kp T.b__law_length .nil pass0 (pa_cons (pe_op op_fdivP (pv 10) pe_int) pa_nil)) pa_nil)))) pa_nil))))) pss_nil)))))
  (pss_one (ps_ret (pe_tup (pa_cons (pv 4) (pa_cons (pv 9) pa_nil))))))))))))),
    rd__law_web hS hl st0 st1 mo1 mo60 ex0 ex20 q⟩

def spAnyWeb49 (K : PySem.W.Frag) : Sp := fun vs H Q _ => ∃ (p : Addr) (ns : List Int) (st : Int), vs = [.ref p, .int st] ∧ SqL K H p (ns.map V.int) ∧ ns.length ≤ 63 ∧ 0 ≤ st ∧ st ≤ 9000 ∧
  ∀ (w rl : Addr) (ts : List Addr) (m : Int) (rs : List Road) (H' : Hp), Same H H' → WebH H' w rl ts m rs → GW m rs → rs.length ≤ 80 → Q (.ref w) H'
def t__law_any_web_0 (K : PySem.W.Frag) : TS :=
  (tIfS (tTest (tOp rEq (tOp (rI (fun _ j => 0 < j) fun i j => .int (i % j)) (tCall (spMixed K) [] E0 (tCons (tVar 0) (tCons (tOp (rI0 fun i j => .int (i + j)) (tVar 1) (tC (.int 199))) tNil))) (tC (.int 4))) (tC (.int 1)))) (tRet (tCall (spWeb K) [] E0 (tCons (tVar 0) (tCons (tVar 1) (tCons (tC (.int 60)) (tCons (tC (.int 15)) tNil)))))) tNext)
theorem t__law_any_web_0_eq (K : PySem.W.Frag) (D : Ends) (σ : St) (H : Hp) : t__law_any_web_0 K D σ H = (tIfS (tTest (tOp rEq (tOp (rI (fun _ j => 0 < j) fun i j => .int (i % j)) (tCall (spMixed K) [] E0 (tCons (tVar 0) (tCons (tOp (rI0 fun i j => .int (i + j)) (tVar 1) (tC (.int 199))) tNil))) (tC (.int 4))) (tC (.int 1)))) (tRet (tCall (spWeb K) [] E0 (tCons (tVar 0) (tCons (tVar 1) (tCons (tC (.int 60)) (tCons (tC (.int 15)) tNil)))))) tNext) D σ H := rfl
def t__law_any_web (K : PySem.W.Frag) : TS :=
  (tSeq (tCut (t__law_any_web_0 K))
  (tRet (tCall (spWeb K) [] E0 (tCons (tVar 0) (tCons (tVar 1) (tCons (tC (.int 12)) (tCons (tC (.int 6)) tNil)))))))
theorem rd__law_any_web {p : Addr} {ns : List Int} {st : Int} (hS : SqL K H p (ns.map V.int)) (hl : ns.length ≤ 63) (st0 : 0 ≤ st) (st1 : st ≤ 9000)
    (q : ∀ (w rl : Addr) (ts : List Addr) (m : Int) (rs : List Road) (H' : Hp), Same H H' → WebH H' w rl ts m rs → GW m rs → rs.length ≤ 80 → Q (.ref w) H') :
    t__law_any_web K { nx := fun _ H' => Q .non H', rt := Q } (L2.start ["_law_script", "_law_start"] [.ref p, .int st]) H := by
  unfold t__law_any_web
  simp only [t__law_any_web_0_eq, sDPut, tDNewK, tDGet2, tComp_eq, capS, tNoTest, rAppend, Option.bind_some, Option.bind_none, Option.join_some, Option.map_some, List.getElem?_cons_zero, List.getElem?_cons_succ, V.str.injEq, V.ty.injEq, tFor_eq, iRng1, iList, tSeq, tNext, tAsg, gName, gTup, gCons, gNil, tCB, tCons, tNil, tVar, tC, tOp, tTest, tIfS, tRet, tCall, rI, rI0, rEq, rIxL, rIxT, L2.start, truV_int, truV_bl, scal_int, scal_bl, List.map_cons, List.map_nil, List.length_cons, List.length_nil, List.replicate, List.cons_append, List.nil_append, List.append_nil, Option.some.injEq, exists_eq_left', exists_eq_left, exists_and_left, List.cons.injEq, V.int.injEq, V.ref.injEq, V.bl.injEq, and_true, true_and, List.set_cons_zero, List.set_cons_succ, Nat.reduceAdd, Nat.reduceSub, Int.reduceToNat, Int.reducePow, Int.reduceNeg, Int.reduceMul, Int.reduceAdd, Int.reduceSub, decide_eq_true_eq, Bool.not_eq_true', decide_eq_false_iff_not, exists_const, and_assoc, exists_eq, exists_eq', if_true, if_false, Bool.false_eq_true, Bool.true_eq_false, reduceCtorEq, not_true_eq_false, not_false_eq_true]
  refine ⟨fun σ H' => H' = H ∧ σ = [some (.ref p), some (.int st)], ?_, ?_⟩
  · simp only [t__law_any_web_0_eq, sDPut, tDNewK, tDGet2, tComp_eq, capS, tNoTest, rAppend, Option.bind_some, Option.bind_none, Option.join_some, Option.map_some, List.getElem?_cons_zero, List.getElem?_cons_succ, V.str.injEq, V.ty.injEq, tFor_eq, iRng1, iList, tSeq, tNext, tAsg, gName, gTup, gCons, gNil, tCB, tCons, tNil, tVar, tC, tOp, tTest, tIfS, tRet, tCall, rI, rI0, rEq, rIxL, rIxT, L2.start, truV_int, truV_bl, scal_int, scal_bl, List.map_cons, List.map_nil, List.length_cons, List.length_nil, List.replicate, List.cons_append, List.nil_append, List.append_nil, Option.some.injEq, exists_eq_left', exists_eq_left, exists_and_left, List.cons.injEq, V.int.injEq, V.ref.injEq, V.bl.injEq, and_true, true_and, List.set_cons_zero, List.set_cons_succ, Nat.reduceAdd, Nat.reduceSub, Int.reduceToNat, Int.reducePow, Int.reduceNeg, Int.reduceMul, Int.reduceAdd, Int.reduceSub, decide_eq_true_eq, Bool.not_eq_true', decide_eq_false_iff_not, exists_const, and_assoc, exists_eq, exists_eq', if_true, if_false, Bool.false_eq_true, Bool.true_eq_false, reduceCtorEq, not_true_eq_false, not_false_eq_true]
    refine ⟨p, ns, _, rfl, hS, hl, by omega, by omega, fun r r0 r1 => ?_⟩
    refine ⟨_, rfl, by decide, ite2 (fun _ => ?_) (fun _ => rfl)⟩
    exact ⟨p, ns, st, 60, 15, rfl, hS, hl, st0, by omega, by decide, by decide, by decide, by decide, fun w rl ts m rs H' s W G e1 e2 _ => q w rl ts m rs H' s W G (by omega)⟩
  · rintro σ H' ⟨e, rfl⟩
    rw [e]
    simp only [t__law_any_web_0_eq, sDPut, tDNewK, tDGet2, tComp_eq, capS, tNoTest, rAppend, Option.bind_some, Option.bind_none, Option.join_some, Option.map_some, List.getElem?_cons_zero, List.getElem?_cons_succ, V.str.injEq, V.ty.injEq, tFor_eq, iRng1, iList, tSeq, tNext, tAsg, gName, gTup, gCons, gNil, tCB, tCons, tNil, tVar, tC, tOp, tTest, tIfS, tRet, tCall, rI, rI0, rEq, rIxL, rIxT, L2.start, truV_int, truV_bl, scal_int, scal_bl, List.map_cons, List.map_nil, List.length_cons, List.length_nil, List.replicate, List.cons_append, List.nil_append, List.append_nil, Option.some.injEq, exists_eq_left', exists_eq_left, exists_and_left, List.cons.injEq, V.int.injEq, V.ref.injEq, V.bl.injEq, and_true, true_and, List.set_cons_zero, List.set_cons_succ, Nat.reduceAdd, Nat.reduceSub, Int.reduceToNat, Int.reducePow, Int.reduceNeg, Int.reduceMul, Int.reduceAdd, Int.reduceSub, decide_eq_true_eq, Bool.not_eq_true', decide_eq_false_iff_not, exists_const, and_assoc, exists_eq, exists_eq', if_true, if_false, Bool.false_eq_true, Bool.true_eq_false, reduceCtorEq, not_true_eq_false, not_false_eq_true]
    exact ⟨p, ns, st, 12, 6, rfl, hS, hl, st0, by omega, by decide, by decide, by decide, by decide, fun w rl ts m rs H' s W G e1 e2 _ => q w rl ts m rs H' s W G (by omega)⟩
theorem sc__law_any_web : FnScope ["_law_script", "_law_start"] ["_law_script", "_law_start"] (defScope s__law_any_web) := ⟨rfl, rfl, rfl, by decide +kernel, rfl, by decide +kernel, by decide +kernel⟩
theorem ok__law_any_web (T : Txt K mg a) : FnOk P w K mg base CX0 3 a.f__law_any_web a.d__law_any_web ["_law_script", "_law_start"] (spAnyWeb49 K) := by
  have G__law_mixed := ok__law_mixed (P := P) (w := w) (base := base) T
  have G__law_web := ok__law_web (P := P) (w := w) (base := base) T
  refine T.F__law_any_web.ok sc__law_any_web (fun vs H Q E h => ?_) (fun cdv A outer s H vs Q E hr h => ?_)
  · obtain ⟨p, ns, st, rfl, hS, hl, st0, st1, q⟩ := h
    rfl
  obtain ⟨p, ns, st, rfl, hS, hl, st0, st1, q⟩ := h
  exact ⟨t__law_any_web K, (pss_cons (ps_cut (ps_if (pt_cmpR op_eq (pe_op op_mod (pe_call G__law_mixed (hr.mono (by decide)) rfl T.m__law_mixed T.F__law_mixed.kp T.b__law_mixed .nil pass0 (pa_cons (pv 0) (pa_cons (pe_op op_add (pv 1) pe_int) pa_nil))) pe_int) pe_int (nomark _)) (pss_one (ps_ret (pe_call G__law_web (hr.mono (by decide)) rfl T.m__law_web T.F__law_web.kp T.b__law_web .nil pass0 (pa_cons (pv 0) (pa_cons (pv 1) (pa_cons pe_int (pa_cons pe_int pa_nil))))))) pss_nil))
  (pss_one (ps_ret (pe_call G__law_web (hr.mono (by decide)) rfl T.m__law_web T.F__law_web.kp T.b__law_web .nil pass0 (pa_cons (pv 0) (pa_cons (pv 1) (pa_cons pe_int (pa_cons pe_int pa_nil)))))))),
    rd__law_any_web hS hl st0 st1 q⟩

/-- what a place's dict tells of its neighbours -/
structure NK (rs : List Road) (x : Int) (kvs : List (Key × V)) : Prop where
  val : ∀ y : Int, valV kvs (.inl y) = (sh rs x y).map V.int
  key : ∀ k ∈ keysOf kvs, ∃ y : Int, k = .inl y
  nd : (keysOf kvs).Nodup
  len : kvs.length ≤ 2 * rs.length
structure NearH (H : Hp) (nl : Addr) (ds : List Addr) (m : Int) (rs : List Road) : Prop where
  hl : H nl = some (.lst (ds.map V.ref))
  len : (ds.length : Int) = m
  dk : ∀ (x : Nat) d, ds[x]? = some d → ∃ kvs, H d = some (.dK kvs) ∧ NK rs x kvs
theorem NearH.same {H H' : Hp} {nl : Addr} {ds : List Addr} {m : Int} {rs : List Road} (h : NearH H nl ds m rs) (s : Same H H') : NearH H' nl ds m rs :=
  ⟨s _ _ h.hl, h.len, fun x d e => let ⟨kvs, h1, h2⟩ := h.dk x d e; ⟨kvs, s _ _ h1, h2⟩⟩
theorem NearH.at {H : Hp} {nl : Addr} {ds : List Addr} {m : Int} {rs : List Road} (h : NearH H nl ds m rs) {x : Int} (x0 : 0 ≤ x) (x1 : x < m) : ∃ d kvs, atI (ds.map V.ref) x = some (.ref d) ∧ H d = some (.dK kvs) ∧ NK rs x kvs := by
  have hl := h.len
  obtain ⟨k, rfl⟩ : ∃ k : Nat, x = k := ⟨x.toNat, by omega⟩
  have e : ds[k]? = some ds[k] := List.getElem?_eq_getElem (by omega)
  obtain ⟨kvs, h1, h2⟩ := h.dk _ _ e
  exact ⟨ds[k], kvs, atI_nat (by rw [List.getElem?_map, e]; rfl), h1, h2⟩
theorem NK.keep {rs rs' : List Road} {x : Int} {kvs : List (Key × V)} (h : NK rs x kvs) (e : ∀ y, sh rs' x y = sh rs x y) (l : rs.length ≤ rs'.length) : NK rs' x kvs :=
  ⟨fun y => by rw [e, h.val], h.key, h.nd, by have := h.len; omega⟩
theorem NK.put {rs rs' : List Road} {x z v : Int} {kvs : List (Key × V)} (h : NK rs x kvs) (e : ∀ y, sh rs' x y = if y = z then some v else sh rs x y) (l : rs'.length = rs.length + 1) : NK rs' x (putK kvs (.inl z) (.int v)) := by
  refine ⟨fun y => ?_, ?_, ?_, ?_⟩
  · rw [valV_put, e, h.val]
    by_cases c : y = z
    · rw [if_pos c, if_pos (by rw [c])]
      rfl
    · rw [if_neg c, if_neg fun w => c (Sum.inl.inj w)]
  · rw [keys_put]
    split
    · intro k hk
      rcases List.mem_append.mp hk with w | w
      · exact h.key k w
      · exact ⟨z, by simpa using w⟩
    · exact h.key
  · rw [keys_put]
    split
    · rename_i c
      refine List.nodup_append.mpr ⟨h.nd, by simp, fun a ha b hb e => ?_⟩
      have : b = .inl z := by simpa using hb
      subst this
      subst e
      exact (val_mem ..).mpr ha c
    · exact h.nd
  · have h1 := length_putK kvs (.inl z) (.int v)
    have h2 := h.len
    omega
def spNear : Sp := fun vs H Q _ => ∃ (w rl : Addr) (ts : List Addr) (m : Int) (rs : List Road), vs = [.ref w] ∧ WebH H w rl ts m rs ∧ GW m rs ∧ ∀ (nl : Addr) (ds : List Addr) (H' : Hp), Same H H' → NearH H' nl ds m rs → Q (.ref nl) H'
def t__law_near_0 (K : PySem.W.Frag) : TS :=
  (tSeq (sDPut (tOp (rIxL K) (tVar 1) (tVar 2)) (tVar 3) (tCB (fun xs H Q => ∃ i j, xs = [.int i, .int j] ∧ Q (.int (if j < i then j else i)) H) (tCons (tVar 4) (tCons (tDGet2 (tOp (rIxL K) (tVar 1) (tVar 2)) (tVar 3) (tVar 4)) tNil))))
  (sDPut (tOp (rIxL K) (tVar 1) (tVar 3)) (tVar 2) (tCB (fun xs H Q => ∃ i j, xs = [.int i, .int j] ∧ Q (.int (if j < i then j else i)) H) (tCons (tVar 4) (tCons (tDGet2 (tOp (rIxL K) (tVar 1) (tVar 3)) (tVar 2) (tVar 4)) tNil)))))
theorem t__law_near_0_eq (K : PySem.W.Frag) (D : Ends) (σ : St) (H : Hp) : t__law_near_0 K D σ H = (tSeq (sDPut (tOp (rIxL K) (tVar 1) (tVar 2)) (tVar 3) (tCB (fun xs H Q => ∃ i j, xs = [.int i, .int j] ∧ Q (.int (if j < i then j else i)) H) (tCons (tVar 4) (tCons (tDGet2 (tOp (rIxL K) (tVar 1) (tVar 2)) (tVar 3) (tVar 4)) tNil))))
  (sDPut (tOp (rIxL K) (tVar 1) (tVar 3)) (tVar 2) (tCB (fun xs H Q => ∃ i j, xs = [.int i, .int j] ∧ Q (.int (if j < i then j else i)) H) (tCons (tVar 4) (tCons (tDGet2 (tOp (rIxL K) (tVar 1) (tVar 3)) (tVar 2) (tVar 4)) tNil))))) D σ H := rfl
def t__law_near (K : PySem.W.Frag) : TS :=
  (tSeq (tAsg (tComp (iRng1 (tCons (tOp (rIxT K) (tVar 0) (tC (.int 0))) tNil)) (gName 0) tNoTest tDNewK [none]) (gName 1))
  (tSeq (tFor (iList K (tOp (rIxT K) (tVar 0) (tC (.int 1)))) (gTup K 3 (gCons (gName 2) (gCons (gName 3) (gCons (gName 4) gNil))))
  (t__law_near_0 K))
  (tRet (tVar 1))))
theorem rd__law_near {w rl : Addr} {ts : List Addr} {m : Int} {rs : List Road} (W : WebH H w rl ts m rs) (G : GW m rs) (q : ∀ (nl : Addr) (ds : List Addr) (H' : Hp), Same H H' → NearH H' nl ds m rs → Q (.ref nl) H') :
    t__law_near K { nx := fun _ H' => Q .non H', rt := Q } (L2.start ["_law_web_here", "_law_near_here", "_law_a", "_law_b", "_law_length_here"] [.ref w]) H := by
  unfold t__law_near
  have m1 := G.m1
  have m60 := G.m60
  have l120 := G.l120
  simp only [t__law_near_0_eq, rSortedD, sDPut, tDNewK, tDGet2, tComp_eq, capS, tNoTest, rAppend, Option.bind_some, Option.bind_none, Option.join_some, Option.map_some, List.getElem?_cons_zero, List.getElem?_cons_succ, rCat, V.str.injEq, V.ty.injEq, tFor_eq, iRng1, iList, tSeq, tNext, tAsg, gName, gTup, gCons, gNil, tCB, tCons, tNil, tVar, tC, tOp, tRet, tLst, tTup, rIxL, rIxT, L2.start, truV_int, truV_bl, scal_int, scal_bl, List.map_cons, List.map_nil, List.length_cons, List.length_nil, List.replicate, List.cons_append, List.nil_append, List.append_nil, Option.some.injEq, exists_eq_left', exists_eq_left, exists_and_left, List.cons.injEq, V.int.injEq, V.ref.injEq, V.bl.injEq, and_true, true_and, List.set_cons_zero, List.set_cons_succ, Nat.reduceAdd, Nat.reduceSub, Int.reduceToNat, Int.reducePow, Int.reduceNeg, Int.reduceMul, Int.reduceAdd, Int.reduceSub, decide_eq_true_eq, Bool.not_eq_true', decide_eq_false_iff_not, exists_const, and_assoc, exists_eq, exists_eq', if_true, if_false, Bool.false_eq_true, Bool.true_eq_false, reduceCtorEq, not_true_eq_false, not_false_eq_true]
  refine ⟨_, SqT.of W.hw, _, rfl, ?_⟩
  refine ⟨m, rfl, by omega, by omega, fun nl hnl => ?_⟩
  refine comp_rangeF (fun i ys σ H' => Same H H' ∧ ∃ (ds : List Addr), ys = ds.map V.ref ∧ ds.length = i ∧ ds.Nodup ∧ (∀ d ∈ ds, H' d = some (.dK []) ∧ H d = none) ∧ ∃ k, σ = [k]) ⟨same_new hnl _, [], rfl, rfl, by simp, by simp, _, rfl⟩ ?_ ?_
  · rintro i ys σ H1 hi hn1 ⟨s1, ds, rfl, ld, nd, hd, k, rfl⟩
    simp only [t__law_near_0_eq, rSortedD, sDPut, tDNewK, tDGet2, tComp_eq, capS, tNoTest, rAppend, Option.bind_some, Option.bind_none, Option.join_some, Option.map_some, List.getElem?_cons_zero, List.getElem?_cons_succ, rCat, V.str.injEq, V.ty.injEq, tFor_eq, iRng1, iList, tSeq, tNext, tAsg, gName, gTup, gCons, gNil, tCB, tCons, tNil, tVar, tC, tOp, tRet, tLst, tTup, rIxL, rIxT, L2.start, truV_int, truV_bl, scal_int, scal_bl, List.map_cons, List.map_nil, List.length_cons, List.length_nil, List.replicate, List.cons_append, List.nil_append, List.append_nil, Option.some.injEq, exists_eq_left', exists_eq_left, exists_and_left, List.cons.injEq, V.int.injEq, V.ref.injEq, V.bl.injEq, and_true, true_and, List.set_cons_zero, List.set_cons_succ, Nat.reduceAdd, Nat.reduceSub, Int.reduceToNat, Int.reducePow, Int.reduceNeg, Int.reduceMul, Int.reduceAdd, Int.reduceSub, decide_eq_true_eq, Bool.not_eq_true', decide_eq_false_iff_not, exists_const, and_assoc, exists_eq, exists_eq', if_true, if_false, Bool.false_eq_true, Bool.true_eq_false, reduceCtorEq, not_true_eq_false, not_false_eq_true]
    intro d hd1
    have nd1 : nl ≠ d := ne_of_none hn1 hd1
    refine ⟨_, by rw [upd_ne nd1]; exact hn1, small1000 (by rw [List.length_map]; omega), _, upd_same, (s1.add hd1).put hnl, ds ++ [d], by rw [List.map_append]; rfl, by rw [List.length_append, ld]; rfl, ?_, ?_⟩
    · refine List.nodup_append.mpr ⟨nd, by simp, fun a ha b hb e => ?_⟩
      have : b = d := by simpa using hb
      subst this
      subst e
      rw [(hd a ha).1] at hd1
      cases hd1
    · intro e he
      rcases List.mem_append.mp he with h | h
      · have n2 : e ≠ nl := fun z => by
          have := (hd e h).1
          rw [z, hn1] at this
          cases this
        have n3 : e ≠ d := ne_of_none (hd e h).1 hd1
        rw [upd_ne n2, upd_ne n3]
        exact hd e h
      · have : e = d := by simpa using h
        subst this
        rw [upd_ne nd1.symm]
        exact ⟨upd_same, s1.free hd1⟩
  · rintro ys σ H1 hn1 ⟨s1, ds, rfl, ld, nd, hd, k, rfl⟩
    have hlen : ds.length = m.toNat := ld
    refine ⟨_, SqT.of (s1 _ _ W.hw), _, rfl, _, rfl, ⟨_, SqL.of (s1 _ _ W.hl)⟩, ?_⟩
    refine for_listF (K := K) (xs := ts.map V.ref) (fun i σ H' => Same H H' ∧ H' nl = some (.lst (ds.map V.ref)) ∧ (∃ kf : Nat → List (Key × V), ∀ (x : Nat) d, ds[x]? = some d → H' d = some (.dK (kf x)) ∧ NK (rs.take i) x (kf x)) ∧ ∃ x1 x2 x3, σ = [some (.ref w), some (.ref nl), x1, x2, x3]) ?_ ?_ ?_ ?_
    · refine ⟨s1, hn1, ⟨fun _ => [], fun x d e => ⟨(hd d (mem_at e)).1, fun _ => rfl, by simp [keysOf], by simp [keysOf], Nat.zero_le _⟩⟩, _, _, _, rfl⟩
    · rintro i σ H' _ ⟨s, _⟩
      exact SqL.of (s _ _ W.hl)
    · rintro i t σ H2 hx ⟨s2, hn2, ⟨kf, hk⟩, x1, x2, x3, rfl⟩
      obtain ⟨t, et, rfl⟩ := map_at hx
      obtain ⟨r, er, hr0⟩ := W.ht.at et
      obtain ⟨g1, g2, g3, g4, g5, g6, g7⟩ := G.gr r (mem_at er)
      have li := (List.getElem?_eq_some_iff.mp er).1
      obtain ⟨⟨av, bv, le⟩, rfl⟩ : ∃ r', r = r' := ⟨r, rfl⟩
      simp only at g1 g2 g3 g4 g5 g6 g7
      obtain ⟨ai, rfl⟩ : ∃ k : Nat, av = k := ⟨av.toNat, by omega⟩
      obtain ⟨bi, rfl⟩ : ∃ k : Nat, bv = k := ⟨bv.toNat, by omega⟩
      have ea : ds[ai]? = some ds[ai] := List.getElem?_eq_getElem (by omega)
      have eb : ds[bi]? = some ds[bi] := List.getElem?_eq_getElem (by omega)
      generalize ds[ai] = da at ea
      generalize ds[bi] = db at eb
      have hdif : da ≠ db := fun z => by
        subst z
        have := nodup_inj nd ea eb
        omega
      obtain ⟨ha, na⟩ := hk ai da ea
      obtain ⟨hb, nb⟩ := hk bi db eb
      have lka := na.len
      have lkb := nb.len
      rw [List.length_take] at lka lkb
      have big : (1000 : Nat) < sizeLine := by decide
      have ia : atI (ds.map V.ref) (ai : Int) = some (.ref da) := atI_nat (by rw [List.getElem?_map, ea]; rfl)
      have ib : atI (ds.map V.ref) (bi : Int) = some (.ref db) := atI_nat (by rw [List.getElem?_map, eb]; rfl)
      have na0 : H da = none := (hd da (mem_at ea)).2
      have nb0 : H db = none := (hd db (mem_at eb)).2
      have dn : nl ≠ da := fun z => by rw [z, ha] at hn2; cases hn2
      have dn2 : nl ≠ db := fun z => by rw [z, hb] at hn2; cases hn2
      simp only [t__law_near_0_eq, rSortedD, sDPut, tDNewK, tDGet2, tComp_eq, capS, tNoTest, rAppend, Option.bind_some, Option.bind_none, Option.join_some, Option.map_some, List.getElem?_cons_zero, List.getElem?_cons_succ, rCat, V.str.injEq, V.ty.injEq, tFor_eq, iRng1, iList, tSeq, tNext, tAsg, gName, gTup, gCons, gNil, tCB, tCons, tNil, tVar, tC, tOp, tRet, tLst, tTup, rIxL, rIxT, L2.start, truV_int, truV_bl, scal_int, scal_bl, List.map_cons, List.map_nil, List.length_cons, List.length_nil, List.replicate, List.cons_append, List.nil_append, List.append_nil, Option.some.injEq, exists_eq_left', exists_eq_left, exists_and_left, List.cons.injEq, V.int.injEq, V.ref.injEq, V.bl.injEq, and_true, true_and, List.set_cons_zero, List.set_cons_succ, Nat.reduceAdd, Nat.reduceSub, Int.reduceToNat, Int.reducePow, Int.reduceNeg, Int.reduceMul, Int.reduceAdd, Int.reduceSub, decide_eq_true_eq, Bool.not_eq_true', decide_eq_false_iff_not, exists_const, and_assoc, exists_eq, exists_eq', if_true, if_false, Bool.false_eq_true, Bool.true_eq_false, reduceCtorEq, not_true_eq_false, not_false_eq_true]
      refine ⟨_, SqT.of (s2 _ _ hr0), rfl, _, _, rfl, _, _, rfl, _, _, rfl, rfl, ?_⟩
      have ev : ∀ x : Int, (if x < le then x else le) = min x le := fun x => by split <;> omega
      have esym := sh_sym (rs.take i) bi ai
      have est := sh_take er
      refine ⟨_, _, rfl, SqL.of hn2, _, ia, _, rfl, .inl ⟨kf ai, .inl ha⟩, _, DGet.k (k := .inl (bi : Int)) ha, _, rfl, (sh (rs.take i) ai bi).getD le, by rw [na.val, getD_map], _, _, rfl, SqL.of hn2, _, ia, _, rfl, _, DPut.k (k := .inl (bi : Int)) ha (by omega), ?_⟩
      rw [ev]
      have e1 : shs (sh (rs.take i)) ((ai : Int), (bi : Int), le) = fun x y => if x = (bi : Int) ∧ y = (ai : Int) then some (min ((sh (rs.take i) ai bi).getD le) le) else if x = (ai : Int) ∧ y = (bi : Int) then some (min ((sh (rs.take i) ai bi).getD le) le) else sh (rs.take i) x y := rfl
      rw [e1] at est
      generalize hv : min ((sh (rs.take i) ai bi).getD le) le = v at est
      have hn3 : (L2.upd H2 da (.dK (putK (kf ai) (.inl (bi : Int)) (.int v)))) nl = some (.lst (ds.map V.ref)) := by rw [upd_ne dn]; exact hn2
      have hb3 : (L2.upd H2 da (.dK (putK (kf ai) (.inl (bi : Int)) (.int v)))) db = some (.dK (kf bi)) := by rw [upd_ne hdif.symm]; exact hb
      refine ⟨_, _, rfl, SqL.of hn3, _, ib, _, rfl, .inl ⟨kf bi, .inl hb3⟩, _, DGet.k (k := .inl (ai : Int)) hb3, _, rfl, (sh (rs.take i) bi ai).getD le, by rw [nb.val, getD_map], _, _, rfl, SqL.of hn3, _, ib, _, rfl, _, DPut.k (k := .inl (ai : Int)) hb3 (by omega), ?_⟩
      rw [ev, esym, hv]
      refine ⟨(s2.put na0).put nb0, by rw [upd_ne dn2]; exact hn3, fun x => if x = ai then putK (kf ai) (.inl (bi : Int)) (.int v) else if x = bi then putK (kf bi) (.inl (ai : Int)) (.int v) else kf x, fun x d e => ?_⟩
      dsimp only
      have tl : (rs.take (i + 1)).length = (rs.take i).length + 1 := by rw [List.length_take, List.length_take]; omega
      by_cases c1 : x = ai
      · subst c1
        rw [ea] at e
        cases e
        rw [if_pos rfl]
        refine ⟨by rw [upd_ne hdif]; exact upd_same, na.put (fun y => ?_) tl⟩
        rw [est]
        simp only
        rw [if_neg fun z => by omega]
        by_cases c : y = (bi : Int)
        · rw [if_pos ⟨trivial, c⟩, if_pos c]
        · rw [if_neg fun z => c z.2, if_neg c]
      · by_cases c2 : x = bi
        · subst c2
          rw [eb] at e
          cases e
          rw [if_neg c1, if_pos rfl]
          refine ⟨upd_same, nb.put (fun y => ?_) tl⟩
          rw [est]
          simp only
          by_cases c : y = (ai : Int)
          · rw [if_pos ⟨trivial, c⟩, if_pos c]
          · rw [if_neg fun z => c z.2, if_neg fun z => by omega, if_neg c]
        · rw [if_neg c1, if_neg c2]
          obtain ⟨h5, h6⟩ := hk x d e
          have n1 : d ≠ da := fun z => c1 (nodup_inj nd (z ▸ e) ea)
          have n2 : d ≠ db := fun z => c2 (nodup_inj nd (z ▸ e) eb)
          refine ⟨by rw [upd_ne n2, upd_ne n1]; exact h5, h6.keep (fun y => ?_) (by omega)⟩
          rw [est]
          simp only
          rw [if_neg fun z => by omega, if_neg fun z => by omega]
    · rintro σ H2 ⟨s2, hn2, ⟨kf, hk⟩, x1, x2, x3, rfl⟩
      rw [List.take_of_length_le (by rw [List.length_map, W.ht.1]; exact Nat.le_refl _)] at hk
      simp only [t__law_near_0_eq, rSortedD, sDPut, tDNewK, tDGet2, tComp_eq, capS, tNoTest, rAppend, Option.bind_some, Option.bind_none, Option.join_some, Option.map_some, List.getElem?_cons_zero, List.getElem?_cons_succ, rCat, V.str.injEq, V.ty.injEq, tFor_eq, iRng1, iList, tSeq, tNext, tAsg, gName, gTup, gCons, gNil, tCB, tCons, tNil, tVar, tC, tOp, tRet, tLst, tTup, rIxL, rIxT, L2.start, truV_int, truV_bl, scal_int, scal_bl, List.map_cons, List.map_nil, List.length_cons, List.length_nil, List.replicate, List.cons_append, List.nil_append, List.append_nil, Option.some.injEq, exists_eq_left', exists_eq_left, exists_and_left, List.cons.injEq, V.int.injEq, V.ref.injEq, V.bl.injEq, and_true, true_and, List.set_cons_zero, List.set_cons_succ, Nat.reduceAdd, Nat.reduceSub, Int.reduceToNat, Int.reducePow, Int.reduceNeg, Int.reduceMul, Int.reduceAdd, Int.reduceSub, decide_eq_true_eq, Bool.not_eq_true', decide_eq_false_iff_not, exists_const, and_assoc, exists_eq, exists_eq', if_true, if_false, Bool.false_eq_true, Bool.true_eq_false, reduceCtorEq, not_true_eq_false, not_false_eq_true]
      exact q nl ds H2 s2 ⟨hn2, by omega, fun x d e => ⟨kf x, hk x d e⟩⟩
theorem sc__law_near : FnScope ["_law_web_here", "_law_near_here", "_law_a", "_law_b", "_law_length_here"] ["_law_web_here"] (defScope s__law_near) := ⟨rfl, rfl, rfl, by decide +kernel, rfl, by decide +kernel, by decide +kernel⟩
theorem ok__law_near (T : Txt K mg a) : FnOk P w K mg base CX0 2 a.f__law_near a.d__law_near ["_law_web_here"] spNear := by
  refine T.F__law_near.ok sc__law_near (fun vs H Q E h => ?_) (fun cdv A outer s H vs Q E hr h => ?_)
  · obtain ⟨w', rl, ts, m, rs, rfl, W, G, q⟩ := h
    rfl
  obtain ⟨w', rl, ts, m, rs, rfl, W, G, q⟩ := h
  exact ⟨t__law_near K, (pss_cons (ps_setComp (i := 1) sc__law_near.nd rfl rfl (sc := defScope s__law_near) (N := ["_law_web_here", "_law_near_here", "_law_a", "_law_b", "_law_length_here"]) (Nc := ["_law_place"]) (cap := [none]) rfl rfl rfl (.of (by decide +kernel)) (pi_range1 rfl T.z_range (pa_cons (pe_ix ix_tup (pv 0) pe_int (fun _ _ => rfl)) pa_nil)) (fun _ _ _ _ => (pg_name (i := 0) (show List.Nodup (["_law_place"] : List Str) from by decide) rfl (Or.inl rfl))) (fun _ _ _ _ => pts_nil) (fun _ _ _ _ => pe_dnewK))
  (pss_cons (ps_for PassesOwn.never rfl (pi_list (pe_ix ix_tup (pv 0) pe_int (fun _ _ => rfl))) (pg_tup rfl (pgs_cons (pg_name (i := 2) sc__law_near.nd rfl (Or.inl rfl)) (pgs_cons (pg_name (i := 3) sc__law_near.nd rfl (Or.inl rfl)) (pgs_cons (pg_name (i := 4) sc__law_near.nd rfl (Or.inl rfl)) pgs_nil))))
  (pss_cons (ps_dput (hu_of hr) (pe_ix ix_list (pv 1) (pv 2) (fun _ _ => rfl)) (pv 3) (pe_callB (call_min2 rfl) rfl T.z_min PyProof.Rows.boot_min (pa_cons (pv 4) (pa_cons (pe_dget2 (hu_of hr) (pe_ix ix_list (pv 1) (pv 2) (fun _ _ => rfl)) (pv 3) (pv 4) ⟨rfl, rfl, rfl, rfl⟩) pa_nil))) rfl)
  (pss_one (ps_dput (hu_of hr) (pe_ix ix_list (pv 1) (pv 3) (fun _ _ => rfl)) (pv 2) (pe_callB (call_min2 rfl) rfl T.z_min PyProof.Rows.boot_min (pa_cons (pv 4) (pa_cons (pe_dget2 (hu_of hr) (pe_ix ix_list (pv 1) (pv 3) (fun _ _ => rfl)) (pv 2) (pv 4) ⟨rfl, rfl, rfl, rfl⟩) pa_nil))) rfl))))
  (pss_one (ps_ret (pv 1))))),
    rd__law_near W G q⟩

theorem keys_int : ∀ (l : List Key), (∀ k ∈ l, ∃ y : Int, k = .inl y) → ∃ ks : List Int, l = ks.map Sum.inl
  | [], _ => ⟨[], rfl⟩
  | k :: l, h => by
    obtain ⟨y, rfl⟩ := h k (by simp)
    obtain ⟨ks, rfl⟩ := keys_int l fun k hk => h k (by simp [hk])
    exact ⟨y :: ks, rfl⟩
/-- the neighbours, as upto -/
theorem NK.nbs {rs : List Road} {x m : Int} {kvs : List (Key × V)} (h : NK rs x kvs) (G : GW m rs) : ∃ ks : List Int, kvs.map (·.1) = ks.map Sum.inl ∧ ks.length < 64 ∧ (∀ y, y ∈ ks ↔ sh rs x y ≠ none) ∧ ks.Nodup := by
  obtain ⟨ks, e⟩ := keys_int (keysOf kvs) h.key
  have hm : ∀ y, y ∈ ks ↔ sh rs x y ≠ none := fun y => by
    have h1 := val_mem kvs (Sum.inl y)
    rw [e, h.val] at h1
    have h2 : (Sum.inl y : Key) ∈ ks.map Sum.inl ↔ y ∈ ks := by
      rw [List.mem_map]
      exact ⟨fun ⟨z, hz, ez⟩ => by cases ez; exact hz, fun hz => ⟨y, hz, rfl⟩⟩
    rw [← h2, ← h1]
    exact ⟨fun z w => z (by rw [w]; rfl), fun z w => z (Option.map_eq_none_iff.mp w)⟩
  have nd : ks.Nodup := by
    have := h.nd
    rw [e] at this
    exact List.Pairwise.of_map Sum.inl (fun a b h e => h (by rw [e])) this
  refine ⟨ks, e, ?_, hm, nd⟩
  have := nodup_len ks (upto m) nd fun y hy => by
    obtain ⟨l, hl⟩ := Option.ne_none_iff_exists'.mp ((hm y).mp hy)
    obtain ⟨_, _, y0, y1, _⟩ := sh_mem rs G.gr _ _ _ hl
    exact mem_ints.mpr ⟨y0, y1⟩
  have m60 := G.m60
  unfold upto at this
  rw [List.length_map, List.length_range] at this
  omega
def spPairs : Sp := fun vs H Q _ => ∃ (nl : Addr) (ds : List Addr) (m : Int) (rs : List Road), vs = [.ref nl] ∧ NearH H nl ds m rs ∧ GW m rs ∧ ∀ (r : Addr) (us : List Addr) (ps : List (Int × Int)) (H' : Hp), Same H H' → H' r = some (.lst (us.map V.ref)) → Tps prv H' us ps → (∀ p, p ∈ ps ↔ sh rs p.1 p.2 ≠ none) → us.length ≤ 4000 → Q (.ref r) H'
def t__law_pairs_0 (K : PySem.W.Frag) : TS :=
  (tAsg (tOp rCat (tVar 1) (tComp (iList K (tCB rSortedD (tCons (tOp (rIxL K) (tVar 0) (tVar 2)) tNil))) (gName 0) tNoTest (tTup (tCons (tVar 1) (tCons (tVar 0) tNil))) [none, some 2])) (gName 1))
theorem t__law_pairs_0_eq (K : PySem.W.Frag) (D : Ends) (σ : St) (H : Hp) : t__law_pairs_0 K D σ H = (tAsg (tOp rCat (tVar 1) (tComp (iList K (tCB rSortedD (tCons (tOp (rIxL K) (tVar 0) (tVar 2)) tNil))) (gName 0) tNoTest (tTup (tCons (tVar 1) (tCons (tVar 0) tNil))) [none, some 2])) (gName 1)) D σ H := rfl
def t__law_pairs (K : PySem.W.Frag) : TS :=
  (tSeq (tAsg (tLst tNil) (gName 1))
  (tSeq (tFor (iRng1 (tCons (tCB (fun xs H Q => ∃ p ys, xs = [.ref p] ∧ (SqL K H p ys ∨ SqT K H p ys) ∧ Q (.int ys.length) H) (tCons (tVar 0) tNil)) tNil)) (gName 2)
  (t__law_pairs_0 K))
  (tRet (tVar 1))))
theorem rd__law_pairs {nl : Addr} {ds : List Addr} {m : Int} {rs : List Road} (N : NearH H nl ds m rs) (G : GW m rs) (q : ∀ (r : Addr) (us : List Addr) (ps : List (Int × Int)) (H' : Hp), Same H H' → H' r = some (.lst (us.map V.ref)) → Tps prv H' us ps → (∀ p, p ∈ ps ↔ sh rs p.1 p.2 ≠ none) → us.length ≤ 4000 → Q (.ref r) H') :
    t__law_pairs K { nx := fun _ H' => Q .non H', rt := Q } (L2.start ["_law_near_here", "_law_pairs_here", "_law_place"] [.ref nl]) H := by
  unfold t__law_pairs
  have m1 := G.m1
  have m60 := G.m60
  have ln := N.len
  simp only [t__law_pairs_0_eq, rSortedD, rIn, tComp_eq, capS, tNoTest, rAppend, Option.bind_some, Option.bind_none, Option.join_some, Option.map_some, List.getElem?_cons_zero, List.getElem?_cons_succ, rCat, V.str.injEq, V.ty.injEq, tBM, tFor_eq, iRng1, iList, tSeq, tNext, tAsg, gName, gTup, gCons, gNil, tCB, tCons, tNil, tVar, tC, tOp, tTest, tAnd, tRet, tDrop, tLst, tTup, tCall, rI, rI0, rIxL, rIxT, L2.start, truV_int, truV_bl, scal_int, scal_bl, List.map_cons, List.map_nil, List.length_cons, List.length_nil, List.replicate, List.cons_append, List.nil_append, List.append_nil, Option.some.injEq, exists_eq_left', exists_eq_left, exists_and_left, List.cons.injEq, V.int.injEq, V.ref.injEq, V.bl.injEq, and_true, true_and, List.set_cons_zero, List.set_cons_succ, Nat.reduceAdd, Nat.reduceSub, Int.reduceToNat, Int.reducePow, Int.reduceNeg, Int.reduceMul, Int.reduceAdd, Int.reduceSub, decide_eq_true_eq, Bool.not_eq_true', decide_eq_false_iff_not, exists_const, and_assoc, exists_eq, exists_eq', if_true, if_false, Bool.false_eq_true, Bool.true_eq_false, reduceCtorEq, not_true_eq_false, not_false_eq_true]
  refine ⟨by decide, fun l0 hl0 => ?_⟩
  have s1 := same_new hl0 (.lst [])
  have h1 : (L2.upd H l0 (.lst [])) l0 = some (.lst []) := upd_same
  generalize L2.upd H l0 (.lst []) = H1 at s1 h1 ⊢
  refine ⟨_, .inl (SqL.of (s1 _ _ N.hl)), ?_⟩
  rw [List.length_map]
  refine ⟨by omega, by omega, ?_⟩
  rw [Int.toNat_natCast]
  refine for_rangeF (fun i σ H' => Same H1 H' ∧ ∃ (l : Addr) (us : List Addr) (ps : List (Int × Int)), H' l = some (.lst (us.map V.ref)) ∧ Tps prv H' us ps ∧ (∀ p, p ∈ ps ↔ p.1 < (i : Int) ∧ sh rs p.1 p.2 ≠ none) ∧ us.length ≤ 64 * i ∧ ∃ x, σ = [some (.ref nl), some (.ref l), x]) ⟨.refl _, l0, [], [], h1, .nil, fun p => ⟨(fun z => absurd z List.not_mem_nil), fun z => ?_⟩, Nat.zero_le _, _, rfl⟩ ?_ ?_
  · obtain ⟨l, hl⟩ := Option.ne_none_iff_exists'.mp z.2
    have := (sh_mem rs G.gr _ _ _ hl).1
    have := z.1
    omega
  · rintro i σ H2 hi ⟨s2, l, us, ps, hl2, hT, hp, lu, x, rfl⟩
    have N2 := N.same (s1.trans s2)
    obtain ⟨d, kvs, e1, e2, e3⟩ := N2.at (x := (i : Int)) (by omega) (by omega)
    obtain ⟨ks, ek, k64, hk, _⟩ := e3.nbs G
    simp only [t__law_pairs_0_eq, rSortedD, rIn, tComp_eq, capS, tNoTest, rAppend, Option.bind_some, Option.bind_none, Option.join_some, Option.map_some, List.getElem?_cons_zero, List.getElem?_cons_succ, rCat, V.str.injEq, V.ty.injEq, tBM, tFor_eq, iRng1, iList, tSeq, tNext, tAsg, gName, gTup, gCons, gNil, tCB, tCons, tNil, tVar, tC, tOp, tTest, tAnd, tRet, tDrop, tLst, tTup, tCall, rI, rI0, rIxL, rIxT, L2.start, truV_int, truV_bl, scal_int, scal_bl, List.map_cons, List.map_nil, List.length_cons, List.length_nil, List.replicate, List.cons_append, List.nil_append, List.append_nil, Option.some.injEq, exists_eq_left', exists_eq_left, exists_and_left, List.cons.injEq, V.int.injEq, V.ref.injEq, V.bl.injEq, and_true, true_and, List.set_cons_zero, List.set_cons_succ, Nat.reduceAdd, Nat.reduceSub, Int.reduceToNat, Int.reducePow, Int.reduceNeg, Int.reduceMul, Int.reduceAdd, Int.reduceSub, decide_eq_true_eq, Bool.not_eq_true', decide_eq_false_iff_not, exists_const, and_assoc, exists_eq, exists_eq', if_true, if_false, Bool.false_eq_true, Bool.true_eq_false, reduceCtorEq, not_true_eq_false, not_false_eq_true]
    rw [Int.zero_add]
    refine ⟨_, SqL.of N2.hl, _, e1, _, rfl, kvs, e2, ks, ek, k64, fun so ns hso hperm _ => ?_⟩
    have s3 := same_new hso (.lst (ns.map V.int))
    have h3 : (L2.upd H2 so (.lst (ns.map V.int))) so = some (.lst (ns.map V.int)) := upd_same
    generalize L2.upd H2 so (.lst (ns.map V.int)) = H3 at s3 h3 ⊢
    have hns : ∀ y, y ∈ ns ↔ sh rs (i : Int) y ≠ none := fun y => by rw [hperm.mem_iff, hk]
    have lns : ns.length < 64 := by rw [hperm.length_eq]; exact k64
    refine ⟨⟨_, SqL.of h3⟩, fun D hD => ?_⟩
    refine comp_listF (K := K) (xs := ns.map V.int) (fun j ys σ H' => Same H3 H' ∧ ∃ (vs : List Addr) (qs : List (Int × Int)), ys = vs.map V.ref ∧ vs.length = j ∧ Tps prv (Off D D H') vs qs ∧ qs = (ns.take j).map (fun y => ((i : Int), y)) ∧ ∃ k, σ = [k, some (.int (i : Int))]) ⟨same_new hD _, [], [], rfl, rfl, .nil, rfl, _, rfl⟩ ?_ ?_ ?_
    · rintro j ys σ H' _ ⟨s, _⟩
      exact SqL.of (s _ _ h3)
    · rintro j x ys σ H4 hx hD4 ⟨s4, vs, qs, rfl, lv, hTv, rfl, k, rfl⟩
      obtain ⟨y, ey, rfl⟩ := map_at hx
      have lj := (List.getElem?_eq_some_iff.mp ey).1
      simp only [t__law_pairs_0_eq, rSortedD, rIn, tComp_eq, capS, tNoTest, rAppend, Option.bind_some, Option.bind_none, Option.join_some, Option.map_some, List.getElem?_cons_zero, List.getElem?_cons_succ, rCat, V.str.injEq, V.ty.injEq, tBM, tFor_eq, iRng1, iList, tSeq, tNext, tAsg, gName, gTup, gCons, gNil, tCB, tCons, tNil, tVar, tC, tOp, tTest, tAnd, tRet, tDrop, tLst, tTup, tCall, rI, rI0, rIxL, rIxT, L2.start, truV_int, truV_bl, scal_int, scal_bl, List.map_cons, List.map_nil, List.length_cons, List.length_nil, List.replicate, List.cons_append, List.nil_append, List.append_nil, Option.some.injEq, exists_eq_left', exists_eq_left, exists_and_left, List.cons.injEq, V.int.injEq, V.ref.injEq, V.bl.injEq, and_true, true_and, List.set_cons_zero, List.set_cons_succ, Nat.reduceAdd, Nat.reduceSub, Int.reduceToNat, Int.reducePow, Int.reduceNeg, Int.reduceMul, Int.reduceAdd, Int.reduceSub, decide_eq_true_eq, Bool.not_eq_true', decide_eq_false_iff_not, exists_const, and_assoc, exists_eq, exists_eq', if_true, if_false, Bool.false_eq_true, Bool.true_eq_false, reduceCtorEq, not_true_eq_false, not_false_eq_true]
      refine ⟨by decide, fun u hu => ?_⟩
      have nu : u ≠ D := (ne_of_none hD4 hu).symm
      have s5 := same_new hu (.tup [V.int (i : Int), V.int y])
      have h5 : (L2.upd H4 u (.tup [V.int (i : Int), V.int y])) u = some (.tup [V.int (i : Int), V.int y]) := upd_same
      generalize L2.upd H4 u (.tup [V.int (i : Int), V.int y]) = H5 at s5 h5 ⊢
      refine ⟨_, s5 _ _ hD4, small1000 (by rw [List.length_map, lv]; omega), _, upd_same, (s4.trans s5).put hD, vs ++ [u], by rw [List.map_append]; rfl, by rw [List.length_append, lv]; rfl, ?_⟩
      rw [off_p, List.take_add_one, ey, List.map_append]
      exact ⟨_, (hTv.same (off_same D D s5)).put (b := ((i : Int), y)) (fun x u h => h) (by rw [off_at nu nu]; exact h5), rfl⟩
    · rintro ys σ H4 hD4 ⟨s4, vs, qs, rfl, lv, hTv, rfl, k, rfl⟩
      rw [List.length_map] at lv hTv
      rw [List.take_length] at hTv
      have T4 := hTv.same (off_le D D H4)
      have big : (10000 : Nat) < sizeLine := by decide
      refine ⟨D, rfl, _, s4 _ _ (s3 _ _ hl2), _, hD4, by rw [List.length_map, List.length_map]; omega, fun r hr => ?_⟩
      have s25 := (s3.trans s4).add hr (o := .lst (us.map V.ref ++ vs.map V.ref))
      refine ⟨s2.trans s25, r, us ++ vs, by rw [upd_same, List.map_append], ps ++ ns.map (fun y => ((i : Int), y)), ?_, fun p => ?_, by rw [List.length_append]; omega, rfl⟩
      · exact (hT.same s25).app (T4.same (same_new hr _))
      · rw [List.mem_append, hp, List.mem_map]
        constructor
        · rintro (⟨h, h'⟩ | ⟨y, hy, rfl⟩)
          · exact ⟨by omega, h'⟩
          · exact ⟨by simp only; omega, (hns y).mp hy⟩
        · rintro ⟨h, h'⟩
          by_cases c : p.1 < (i : Int)
          · exact .inl ⟨c, h'⟩
          · have e : p.1 = (i : Int) := by omega
            refine .inr ⟨p.2, (hns _).mpr (by rw [← e]; exact h'), ?_⟩
            rw [← e]
  · rintro σ H2 ⟨s2, l, us, ps, hl2, hT, hp, lu, x, rfl⟩
    simp only [t__law_pairs_0_eq, rSortedD, rIn, tComp_eq, capS, tNoTest, rAppend, Option.bind_some, Option.bind_none, Option.join_some, Option.map_some, List.getElem?_cons_zero, List.getElem?_cons_succ, rCat, V.str.injEq, V.ty.injEq, tBM, tFor_eq, iRng1, iList, tSeq, tNext, tAsg, gName, gTup, gCons, gNil, tCB, tCons, tNil, tVar, tC, tOp, tTest, tAnd, tRet, tDrop, tLst, tTup, tCall, rI, rI0, rIxL, rIxT, L2.start, truV_int, truV_bl, scal_int, scal_bl, List.map_cons, List.map_nil, List.length_cons, List.length_nil, List.replicate, List.cons_append, List.nil_append, List.append_nil, Option.some.injEq, exists_eq_left', exists_eq_left, exists_and_left, List.cons.injEq, V.int.injEq, V.ref.injEq, V.bl.injEq, and_true, true_and, List.set_cons_zero, List.set_cons_succ, Nat.reduceAdd, Nat.reduceSub, Int.reduceToNat, Int.reducePow, Int.reduceNeg, Int.reduceMul, Int.reduceAdd, Int.reduceSub, decide_eq_true_eq, Bool.not_eq_true', decide_eq_false_iff_not, exists_const, and_assoc, exists_eq, exists_eq', if_true, if_false, Bool.false_eq_true, Bool.true_eq_false, reduceCtorEq, not_true_eq_false, not_false_eq_true]
    refine q l us ps H2 (s1.trans s2) hl2 hT (fun p => ?_) (by omega)
    rw [hp]
    refine ⟨And.right, fun z => ⟨?_, z⟩⟩
    obtain ⟨l, hl⟩ := Option.ne_none_iff_exists'.mp z
    have := (sh_mem rs G.gr _ _ _ hl).2.1
    omega
theorem sc__law_pairs : FnScope ["_law_near_here", "_law_pairs_here", "_law_place"] ["_law_near_here"] (defScope s__law_pairs) := ⟨rfl, rfl, rfl, by decide +kernel, rfl, by decide +kernel, by decide +kernel⟩
theorem ok__law_pairs (T : Txt K mg a) : FnOk P w K mg base CX0 1 a.f__law_pairs a.d__law_pairs ["_law_near_here"] spPairs := by
  refine T.F__law_pairs.ok sc__law_pairs (fun vs H Q E h => ?_) (fun cdv A outer s H vs Q E hr h => ?_)
  · obtain ⟨nl, ds, m, rs, rfl, N, G, q⟩ := h
    rfl
  obtain ⟨nl, ds, m, rs, rfl, N, G, q⟩ := h
  exact ⟨t__law_pairs K, (pss_cons (ps_set (i := 1) sc__law_pairs.nd rfl (Or.inl rfl) (pe_lst pa_nil))
  (pss_cons (ps_for PassesOwn.never rfl (pi_range1 rfl T.z_range (pa_cons (pe_callB call_len_seq rfl T.z_len PySem.boot_len (pa_cons (pv 0) pa_nil)) pa_nil)) (pg_name (i := 2) sc__law_pairs.nd rfl (Or.inr rfl))
  (pss_one (ps_set (i := 1) sc__law_pairs.nd rfl (Or.inl rfl) (pe_op op_cat (pv 1) (pe_comp (sc := defScope s__law_pairs) (N := ["_law_near_here", "_law_pairs_here", "_law_place"]) (Nc := ["_law_other", "_law_place"]) (cap := [none, some 2]) rfl rfl rfl (.of (by decide +kernel)) (pi_list (pe_callB (call_sortedD rfl) rfl T.z_sorted PyProof.Rows.boot_sorted (pa_cons (pe_ix ix_list (pv 0) (pv 2) (fun _ _ => rfl)) pa_nil))) (fun _ _ _ _ => (pg_name (i := 0) (show List.Nodup (["_law_other", "_law_place"] : List Str) from by decide) rfl (Or.inl rfl))) (fun _ _ _ _ => pts_nil) (fun _ _ _ _ => (pe_tup (pa_cons (pv 1) (pa_cons (pv 0) pa_nil)))))))))
  (pss_one (ps_ret (pv 1))))),
    rd__law_pairs N G q⟩

theorem stC_val {f : Int → Int → Option Int} {s : Int × Ct} {a b x : Int} (h : s.2 x ≠ none) : (stC f s a b).2 x = s.2 x := by
  unfold stC
  simp only
  by_cases c : x = b ∧ s.2 b = none
  · exact absurd (c.1 ▸ c.2) h
  · rw [if_neg c]
theorem spC_dom {f : Int → Int → Option Int} (ps : List (Int × Int)) : ∀ x, (spC f ps).2 x ≠ none ↔ x = 0 ∨ ∃ p ∈ ps, p.2 = x := by
  have z : ∀ (ps : List (Int × Int)) (s : Int × Ct) (x : Int), (ps.foldl (fun s p => stC f s p.1 p.2) s).2 x ≠ none ↔ s.2 x ≠ none ∨ ∃ p ∈ ps, p.2 = x := by
    intro ps
    induction ps with
    | nil => intro s x; simp
    | cons p ps ih =>
      intro s x
      rw [List.foldl_cons, ih, stC_dom]
      simp only [List.mem_cons]
      constructor
      · rintro ((rfl | h) | ⟨p', hp, e⟩)
        · exact .inr ⟨p, .inl rfl, rfl⟩
        · exact .inl h
        · exact .inr ⟨p', .inr hp, e⟩
      · rintro (h | ⟨p', rfl | hp, e⟩)
        · exact .inl (.inr h)
        · exact .inl (.inl e.symm)
        · exact .inr ⟨p', hp, e⟩
  intro x
  unfold spC
  rw [z]
  have : ((0 : Int), ct0).2 x ≠ none ↔ x = 0 := by
    show ct0 x ≠ none ↔ _
    unfold ct0
    by_cases c : x = 0
    · simp [c]
    · simp [c]
  rw [this]
/-- a road leads out of places come to that are not all -/
theorem road_out {m : Int} {rs : List Road} (G : GW m rs) {ls : List Int} (h0 : (0 : Int) ∈ ls) (nd : ls.Nodup) (hr : ∀ x ∈ ls, 0 ≤ x ∧ x < m) (hl : (ls.length : Int) < m) : ∃ x y, x ∈ ls ∧ y ∉ ls ∧ sh rs x y ≠ none := by
  refine Classical.byContradiction fun c => ?_
  have all : ∀ x, 0 ≤ x → x < m → x ∈ ls := G.conn (fun x => x ∈ ls) h0 fun r hr => by
    have e1 := sh_road hr
    have e2 : sh rs r.2.1 r.1 ≠ none := by rw [sh_sym]; exact e1
    by_cases c1 : r.1 ∈ ls
    · by_cases c2 : r.2.1 ∈ ls
      · exact fun _ => ⟨c1, c2⟩
      · exact absurd ⟨_, _, c1, c2, e1⟩ c
    · by_cases c2 : r.2.1 ∈ ls
      · exact absurd ⟨_, _, c2, c1, e2⟩ c
      · exact fun z => (z.elim c1 c2).elim
  have := nodup_len (upto m) ls nodup_ints fun x hx => by
    obtain ⟨x0, x1⟩ := mem_ints.mp hx
    exact all x x0 x1
  unfold upto at this
  rw [List.length_map, List.length_range] at this
  omega
theorem inV_int (x : Int) (ls : List Int) : inV (.int x) (ls.map V.int) = decide (x ∈ ls) := by
  unfold inV
  rw [List.any_map]
  have z : ∀ y : Int, eqV (.int y) (.int x) = decide (y = x) := fun y => by
    show (y == x) = _
    by_cases c : y = x
    · simp [c]
    · simp [c]
  induction ls with
  | nil => simp
  | cons y ls ih =>
    rw [List.any_cons, ih]
    simp only [Function.comp, z, List.mem_cons]
    by_cases c : y = x
    · simp [c]
    · have c' : ¬ x = y := fun z => c z.symm
      simp [c, c']
theorem flat_ints (ls : List Int) : (ls.map V.int).all flatV = true := by
  rw [List.all_map]
  exact List.all_eq_true.mpr fun _ _ => rfl
def spSpread (K : PySem.W.Frag) : Sp := fun vs H Q _ => ∃ (p nl : Addr) (ns : List Int) (st : Int) (ds : List Addr) (m : Int) (rs : List Road), vs = [.ref p, .int st, .ref nl] ∧ SqL K H p (ns.map V.int) ∧ ns.length ≤ 63 ∧ 0 ≤ st ∧ st ≤ 10000 ∧ NearH H nl ds m rs ∧ GW m rs ∧
  ∀ (r : Addr) (us : List Addr) (ps : List (Int × Int)) (H' : Hp), Same H H' → H' r = some (.lst (us.map V.ref)) → Tps prv H' us ps → Spr (sh rs) m ps → Q (.ref r) H'
def t__law_spread_0 (K : PySem.W.Frag) : TS :=
  (tSeq (tAsg (tComp (iList K (tCall spPairs [] E0 (tCons (tVar 2) tNil))) (gTup K 2 (gCons (gName 0) (gCons (gName 1) gNil))) (tAnd (tTest (tOp (rIn K false) (tVar 0) (tVar 2))) (tTest (tOp (rIn K true) (tVar 1) (tVar 2)))) (tTup (tCons (tVar 0) (tCons (tVar 1) tNil))) [none, none, some 3]) (gName 5))
  (tSeq (tAsg (tOp (rIxL K) (tVar 5) (tOp (rI (fun _ j => 0 < j) fun i j => .int (i % j)) (tCall (spMixed K) [] E0 (tCons (tVar 0) (tCons (tOp (rI0 fun i j => .int (i + j)) (tVar 1) (tCB (fun xs H Q => ∃ p ys, xs = [.ref p] ∧ (SqL K H p ys ∨ SqT K H p ys) ∧ Q (.int ys.length) H) (tCons (tVar 4) tNil))) tNil))) (tCB (fun xs H Q => ∃ p ys, xs = [.ref p] ∧ (SqL K H p ys ∨ SqT K H p ys) ∧ Q (.int ys.length) H) (tCons (tVar 5) tNil)))) (gName 6))
  (tSeq (tDrop (tBM K "list" rAppend (tVar 4) (tCons (tVar 6) tNil)))
  (tDrop (tBM K "list" rAppend (tVar 3) (tCons (tOp (rIxT K) (tVar 6) (tC (.int 1))) tNil))))))
theorem t__law_spread_0_eq (K : PySem.W.Frag) (D : Ends) (σ : St) (H : Hp) : t__law_spread_0 K D σ H = (tSeq (tAsg (tComp (iList K (tCall spPairs [] E0 (tCons (tVar 2) tNil))) (gTup K 2 (gCons (gName 0) (gCons (gName 1) gNil))) (tAnd (tTest (tOp (rIn K false) (tVar 0) (tVar 2))) (tTest (tOp (rIn K true) (tVar 1) (tVar 2)))) (tTup (tCons (tVar 0) (tCons (tVar 1) tNil))) [none, none, some 3]) (gName 5))
  (tSeq (tAsg (tOp (rIxL K) (tVar 5) (tOp (rI (fun _ j => 0 < j) fun i j => .int (i % j)) (tCall (spMixed K) [] E0 (tCons (tVar 0) (tCons (tOp (rI0 fun i j => .int (i + j)) (tVar 1) (tCB (fun xs H Q => ∃ p ys, xs = [.ref p] ∧ (SqL K H p ys ∨ SqT K H p ys) ∧ Q (.int ys.length) H) (tCons (tVar 4) tNil))) tNil))) (tCB (fun xs H Q => ∃ p ys, xs = [.ref p] ∧ (SqL K H p ys ∨ SqT K H p ys) ∧ Q (.int ys.length) H) (tCons (tVar 5) tNil)))) (gName 6))
  (tSeq (tDrop (tBM K "list" rAppend (tVar 4) (tCons (tVar 6) tNil)))
  (tDrop (tBM K "list" rAppend (tVar 3) (tCons (tOp (rIxT K) (tVar 6) (tC (.int 1))) tNil)))))) D σ H := rfl
def t__law_spread (K : PySem.W.Frag) : TS :=
  (tSeq (tAsg (tLst (tCons (tC (.int 0)) tNil)) (gName 3))
  (tSeq (tAsg (tLst tNil) (gName 4))
  (tSeq (tWhile (tTest (tOp (rI0 fun i j => .bl (decide (i < j))) (tCB (fun xs H Q => ∃ p ys, xs = [.ref p] ∧ (SqL K H p ys ∨ SqT K H p ys) ∧ Q (.int ys.length) H) (tCons (tVar 3) tNil)) (tCB (fun xs H Q => ∃ p ys, xs = [.ref p] ∧ (SqL K H p ys ∨ SqT K H p ys) ∧ Q (.int ys.length) H) (tCons (tVar 2) tNil)))) (t__law_spread_0 K))
  (tRet (tVar 4)))))
theorem rd__law_spread {p nl : Addr} {ns : List Int} {st : Int} {ds : List Addr} {m : Int} {rs : List Road} (hS : SqL K H p (ns.map V.int)) (hl : ns.length ≤ 63) (st0 : 0 ≤ st) (st1 : st ≤ 10000) (N : NearH H nl ds m rs) (G : GW m rs)
    (q : ∀ (r : Addr) (us : List Addr) (ps : List (Int × Int)) (H' : Hp), Same H H' → H' r = some (.lst (us.map V.ref)) → Tps prv H' us ps → Spr (sh rs) m ps → Q (.ref r) H') :
    t__law_spread K { nx := fun _ H' => Q .non H', rt := Q } (L2.start ["_law_script", "_law_start", "_law_near_here", "_law_come", "_law_spread_here", "_law_some", "_law_pair"] [.ref p, .int st, .ref nl]) H := by
  unfold t__law_spread
  have m1 := G.m1
  have m60 := G.m60
  have ln := N.len
  simp only [t__law_spread_0_eq, rSortedD, rIn, tDGet, tDNotIn, sDPut, tDNewK, tComp_eq, capS, rAppend, Option.bind_some, Option.bind_none, Option.join_some, Option.map_some, List.getElem?_cons_zero, List.getElem?_cons_succ, rCat, V.str.injEq, V.ty.injEq, tBM, tFor_eq, iList, tSeq, tNext, tAsg, gName, gTup, gCons, gNil, tCB, tCons, tNil, tVar, tC, tOp, tTest, tB, tAnd, tIfS, tRet, tDrop, tLst, tTup, tCall, rI, rI0, rNe, rIxL, rIxT, L2.start, truV_int, truV_bl, scal_int, scal_bl, List.map_cons, List.map_nil, List.length_cons, List.length_nil, List.replicate, List.cons_append, List.nil_append, List.append_nil, Option.some.injEq, exists_eq_left', exists_eq_left, exists_and_left, List.cons.injEq, V.int.injEq, V.ref.injEq, V.bl.injEq, and_true, true_and, List.set_cons_zero, List.set_cons_succ, Nat.reduceAdd, Nat.reduceSub, Int.reduceToNat, Int.reducePow, Int.reduceNeg, Int.reduceMul, Int.reduceAdd, Int.reduceSub, decide_eq_true_eq, Bool.not_eq_true', decide_eq_false_iff_not, exists_const, and_assoc, exists_eq, exists_eq', if_true, if_false, Bool.false_eq_true, Bool.true_eq_false, reduceCtorEq, not_true_eq_false, not_false_eq_true]
  refine ⟨by decide, fun co hco => ?_⟩
  have sco := same_new hco (.lst [V.int 0])
  refine ⟨by decide, fun sp hsp => ?_⟩
  have nsp : sp ≠ co := (ne_of_none upd_same hsp).symm
  have hsp0 : H sp = none := sco.free hsp
  refine while_W (m := 99) (fun n σ H' => Same H H' ∧ ∃ (ls : List Int) (us : List Addr) (ps : List (Int × Int)) (x y : Option V), H' co = some (.lst (ls.map V.int)) ∧ H' sp = some (.lst (us.map V.ref)) ∧ Tps prv (Off co sp H') us ps ∧ ls = 0 :: ps.map (fun p => p.2) ∧ ls.Nodup ∧ (∀ x ∈ ls, 0 ≤ x ∧ x < m) ∧
    (∀ (i : Nat) p, ps[i]? = some p → (spC (sh rs) (ps.take i)).2 p.1 ≠ none ∧ (spC (sh rs) (ps.take i)).2 p.2 = none ∧ sh rs p.1 p.2 ≠ none) ∧ n = 100 - ls.length ∧ σ = [some (.ref p), some (.int st), some (.ref nl), some (.ref co), some (.ref sp), x, y]) ?_ ?_
  · refine ⟨sco.add hsp, [0], [], [], _, _, by rw [upd_ne nsp.symm]; exact upd_same, upd_same, .nil, rfl, by simp, by simp; omega, by simp, rfl, rfl⟩
  · rintro n σ H1 ⟨s1, ls, us, ps, x, y, h1, h2, hT, els, nd, hr, ok, rfl, rfl⟩
    have N1 := N.same s1
    have llm : (ls.length : Int) ≤ m := by
      have := nodup_len ls (upto m) nd fun x hx => mem_ints.mpr (hr x hx)
      unfold upto at this
      rw [List.length_map, List.length_range] at this
      omega
    have lls : ls.length ≤ 60 := by omega
    have lps : ls.length = ps.length + 1 := by rw [els, List.length_cons, List.length_map]
    have lus := hT.1
    simp only [t__law_spread_0_eq, rSortedD, rIn, tDGet, tDNotIn, sDPut, tDNewK, tComp_eq, capS, rAppend, Option.bind_some, Option.bind_none, Option.join_some, Option.map_some, List.getElem?_cons_zero, List.getElem?_cons_succ, rCat, V.str.injEq, V.ty.injEq, tBM, tFor_eq, iList, tSeq, tNext, tAsg, gName, gTup, gCons, gNil, tCB, tCons, tNil, tVar, tC, tOp, tTest, tB, tAnd, tIfS, tRet, tDrop, tLst, tTup, tCall, rI, rI0, rNe, rIxL, rIxT, L2.start, truV_int, truV_bl, scal_int, scal_bl, List.map_cons, List.map_nil, List.length_cons, List.length_nil, List.replicate, List.cons_append, List.nil_append, List.append_nil, Option.some.injEq, exists_eq_left', exists_eq_left, exists_and_left, List.cons.injEq, V.int.injEq, V.ref.injEq, V.bl.injEq, and_true, true_and, List.set_cons_zero, List.set_cons_succ, Nat.reduceAdd, Nat.reduceSub, Int.reduceToNat, Int.reducePow, Int.reduceNeg, Int.reduceMul, Int.reduceAdd, Int.reduceSub, decide_eq_true_eq, Bool.not_eq_true', decide_eq_false_iff_not, exists_const, and_assoc, exists_eq, exists_eq', if_true, if_false, Bool.false_eq_true, Bool.true_eq_false, reduceCtorEq, not_true_eq_false, not_false_eq_true]
    refine ⟨_, .inl (SqL.of h1), _, .inl (SqL.of N1.hl), ?_⟩
    rw [List.length_map, List.length_map]
    refine ite2 (fun c => ?_) (fun c => ?_)
    · refine ⟨_, fun _ _ h => h, ?_⟩
      refine ⟨nl, ds, m, rs, rfl, N1, G, fun pr us2 ps2 H2 s2 hp2 hT2 hm2 lu2 => ?_⟩
      simp only [t__law_spread_0_eq, rSortedD, rIn, tDGet, tDNotIn, sDPut, tDNewK, tComp_eq, capS, rAppend, Option.bind_some, Option.bind_none, Option.join_some, Option.map_some, List.getElem?_cons_zero, List.getElem?_cons_succ, rCat, V.str.injEq, V.ty.injEq, tBM, tFor_eq, iList, tSeq, tNext, tAsg, gName, gTup, gCons, gNil, tCB, tCons, tNil, tVar, tC, tOp, tTest, tB, tAnd, tIfS, tRet, tDrop, tLst, tTup, tCall, rI, rI0, rNe, rIxL, rIxT, L2.start, truV_int, truV_bl, scal_int, scal_bl, List.map_cons, List.map_nil, List.length_cons, List.length_nil, List.replicate, List.cons_append, List.nil_append, List.append_nil, Option.some.injEq, exists_eq_left', exists_eq_left, exists_and_left, List.cons.injEq, V.int.injEq, V.ref.injEq, V.bl.injEq, and_true, true_and, List.set_cons_zero, List.set_cons_succ, Nat.reduceAdd, Nat.reduceSub, Int.reduceToNat, Int.reducePow, Int.reduceNeg, Int.reduceMul, Int.reduceAdd, Int.reduceSub, decide_eq_true_eq, Bool.not_eq_true', decide_eq_false_iff_not, exists_const, and_assoc, exists_eq, exists_eq', if_true, if_false, Bool.false_eq_true, Bool.true_eq_false, reduceCtorEq, not_true_eq_false, not_false_eq_true]
      refine ⟨⟨_, SqL.of hp2⟩, fun D hD => ?_⟩
      refine comp_listF (K := K) (xs := us2.map V.ref) (fun j ys σ H' => Same H2 H' ∧ ∃ (vs : List Addr) (qs : List (Int × Int)), ys = vs.map V.ref ∧ vs.length ≤ j ∧ Tps prv (Off D D H') vs qs ∧ (∀ q, q ∈ qs ↔ q ∈ ps2.take j ∧ q.1 ∈ ls ∧ q.2 ∉ ls) ∧ ∃ k1 k2, σ = [k1, k2, some (.ref co)]) ⟨same_new hD _, [], [], rfl, Nat.le_refl _, .nil, by simp, _, _, rfl⟩ ?_ ?_ ?_
      · rintro j ys σ H' _ ⟨s, _⟩
        exact SqL.of (s _ _ hp2)
      · rintro j x ys σ H3 hx hD3 ⟨s3, vs, qs, rfl, lv, hTv, hq, k1, k2, rfl⟩
        obtain ⟨t, et, rfl⟩ := map_at hx
        obtain ⟨⟨av, bv⟩, er, hr0⟩ := hT2.at et
        have lj := (List.getElem?_eq_some_iff.mp et).1
        simp only [t__law_spread_0_eq, rSortedD, rIn, tDGet, tDNotIn, sDPut, tDNewK, tComp_eq, capS, rAppend, Option.bind_some, Option.bind_none, Option.join_some, Option.map_some, List.getElem?_cons_zero, List.getElem?_cons_succ, rCat, V.str.injEq, V.ty.injEq, tBM, tFor_eq, iList, tSeq, tNext, tAsg, gName, gTup, gCons, gNil, tCB, tCons, tNil, tVar, tC, tOp, tTest, tB, tAnd, tIfS, tRet, tDrop, tLst, tTup, tCall, rI, rI0, rNe, rIxL, rIxT, L2.start, truV_int, truV_bl, scal_int, scal_bl, List.map_cons, List.map_nil, List.length_cons, List.length_nil, List.replicate, List.cons_append, List.nil_append, List.append_nil, Option.some.injEq, exists_eq_left', exists_eq_left, exists_and_left, List.cons.injEq, V.int.injEq, V.ref.injEq, V.bl.injEq, and_true, true_and, List.set_cons_zero, List.set_cons_succ, Nat.reduceAdd, Nat.reduceSub, Int.reduceToNat, Int.reducePow, Int.reduceNeg, Int.reduceMul, Int.reduceAdd, Int.reduceSub, decide_eq_true_eq, Bool.not_eq_true', decide_eq_false_iff_not, exists_const, and_assoc, exists_eq, exists_eq', if_true, if_false, Bool.false_eq_true, Bool.true_eq_false, reduceCtorEq, not_true_eq_false, not_false_eq_true]
        refine ⟨_, SqT.of (s3 _ _ hr0), rfl, _, _, rfl, _, _, rfl, rfl, ?_⟩
        have hco3 := s3 _ _ (s2 _ _ h1)
        have nxt : ∀ q : Int × Int, q ∈ ps2.take (j + 1) ↔ q ∈ ps2.take j ∨ q = (av, bv) := fun q => by
          rw [List.take_add_one, er, List.mem_append]
          simp
        refine ⟨_, .inl (SqL.of hco3), rfl, flat_ints ls, ?_⟩
        rw [inV_int]
        have big : (10000 : Nat) < sizeLine := by decide
        have no : ¬ (av ∈ ls ∧ bv ∉ ls) → ∃ ys, H3 D = some (.lst ys) ∧ Same H2 H3 ∧ ∃ vs : List Addr, ys = vs.map V.ref ∧ vs.length ≤ j + 1 ∧ ∃ x : List (Int × Int), Tps prv (Off D D H3) vs x ∧ ∀ q : Int × Int, q ∈ x ↔ q ∈ ps2.take (j + 1) ∧ q.1 ∈ ls ∧ ¬ q.2 ∈ ls := by
          intro hn
          refine ⟨_, hD3, s3, vs, rfl, by omega, qs, hTv, fun q => ?_⟩
          rw [hq, nxt]
          refine ⟨fun z => ⟨.inl z.1, z.2⟩, fun z => ⟨z.1.resolve_right fun e => hn ?_, z.2⟩⟩
          rw [e] at z
          exact z.2
        refine ite2 (fun c1 => ?_) (fun c1 => no fun z => c1 (decide_eq_true z.1))
        refine ⟨_, .inl (SqL.of hco3), rfl, flat_ints ls, ?_⟩
        rw [inV_int]
        refine ite2 (fun c2 => ?_) (fun c2 => no fun z => c2 (decide_eq_false z.2))
        have c1' : av ∈ ls := of_decide_eq_true c1
        have c2' : bv ∉ ls := of_decide_eq_false c2
        refine ⟨by decide, fun u hu => ?_⟩
        have nu : u ≠ D := (ne_of_none hD3 hu).symm
        have s4 := same_new hu (.tup [V.int (av, bv).1, V.int (av, bv).2])
        have h4 : (L2.upd H3 u (.tup [V.int (av, bv).1, V.int (av, bv).2])) u = some (.tup [V.int (av, bv).1, V.int (av, bv).2]) := upd_same
        generalize L2.upd H3 u (.tup [V.int (av, bv).1, V.int (av, bv).2]) = H4 at s4 h4 ⊢
        refine ⟨_, s4 _ _ hD3, by rw [List.length_map]; omega, _, upd_same, (s3.trans s4).put hD, vs ++ [u], by rw [List.map_append]; rfl, by rw [List.length_append]; simp only [List.length_cons, List.length_nil]; omega, qs ++ [(av, bv)], ?_, fun q => ?_⟩
        · rw [off_p]
          exact (hTv.same (off_same D D s4)).put (b := (av, bv)) (fun x u h => h) (by rw [off_at nu nu]; exact h4)
        · rw [List.mem_append, hq, nxt]
          simp only [List.mem_cons, List.not_mem_nil, or_false]
          constructor
          · rintro (⟨z1, z2⟩ | rfl)
            · exact ⟨.inl z1, z2⟩
            · exact ⟨.inr rfl, c1', c2'⟩
          · rintro ⟨z1 | rfl, z2⟩
            · exact .inl ⟨z1, z2⟩
            · exact .inr rfl
      · rintro ys σ H3 hD3 ⟨s3, vs, qs, rfl, lv, hTv, hq, k1, k2, rfl⟩
        have T3 := hTv.same (off_le D D H3)
        have s13 := s2.trans s3
        have e2 : ps2.take (us2.map V.ref).length = ps2 := List.take_of_length_le (by rw [List.length_map, hT2.1]; exact Nat.le_refl _)
        rw [e2] at hq
        have hq' : ∀ q : Int × Int, q ∈ qs ↔ sh rs q.1 q.2 ≠ none ∧ q.1 ∈ ls ∧ q.2 ∉ ls := fun q => by rw [hq, hm2]
        obtain ⟨x0, y0, hx0, hy0, hxy⟩ := road_out G (by rw [els]; simp) nd hr (by omega)
        have qpos : 0 < qs.length := List.length_pos_of_mem ((hq' (x0, y0)).mpr ⟨hxy, hx0, hy0⟩)
        have lvq := T3.1
        refine ⟨_, .inl (SqL.of (s13 _ _ h2)), ?_⟩
        refine ⟨p, ns, _, rfl, (s1.trans s13).seq hS, hl, by rw [List.length_map]; omega, by rw [List.length_map]; omega, fun n n0 n1 => ?_⟩
        refine ⟨D, rfl, _, .inl (SqL.of hD3), _, rfl, ?_⟩
        rw [List.length_map]
        have z0 := Int.emod_nonneg n (show (vs.length : Int) ≠ 0 by omega)
        have z1 := Int.emod_lt_of_pos n (show 0 < (vs.length : Int) by omega)
        generalize n % (vs.length : Int) = k at z0 z1
        obtain ⟨ki, rfl⟩ : ∃ ki : Nat, k = ki := ⟨k.toNat, by omega⟩
        have ev : vs[ki]? = some vs[ki] := List.getElem?_eq_getElem (by omega)
        generalize vs[ki] = t at ev
        obtain ⟨⟨av, bv⟩, er, hr0⟩ := T3.at ev
        obtain ⟨w1, w2, w3⟩ := (hq' _).mp (mem_at er)
        simp only at w1 w2 w3
        have iv : atI (vs.map V.ref) (ki : Int) = some (.ref t) := atI_nat (by rw [List.getElem?_map, ev]; rfl)
        have h23 := s13 _ _ h2
        have h13 := s13 _ _ h1
        have tsp : t ≠ sp := ne_of hr0 h23 (fun z => nomatch z)
        have tco : t ≠ co := ne_of hr0 h13 (fun z => nomatch z)
        have big : (10000 : Nat) < sizeLine := by decide
        have h14 : (L2.upd H3 sp (.lst (us.map V.ref ++ [.ref t]))) co = some (.lst (ls.map V.int)) := by rw [upd_ne nsp.symm]; exact h13
        have T4 : Tps prv (Off co sp H3) (us ++ [t]) (ps ++ [(av, bv)]) := (hT.same (off_same co sp s13)).put (b := (av, bv)) (fun x u h => h) (by rw [off_at tco tsp]; exact hr0)
        have bR : 0 ≤ bv ∧ bv < m := by
          obtain ⟨l, hl⟩ := Option.ne_none_iff_exists'.mp w1
          obtain ⟨_, _, y0, y1, _⟩ := sh_mem rs G.gr _ _ _ hl
          exact ⟨y0, y1⟩
        have inls : ∀ x, x ∈ ls ↔ (spC (sh rs) ps).2 x ≠ none := fun x => by
          rw [spC_dom, els, List.mem_cons, List.mem_map]
        refine ⟨by omega, D, rfl, _, SqL.of hD3, _, iv, .inl ⟨rfl, _, SqL.of h23⟩, _, h23, by rw [List.length_map]; omega, .inl ⟨rfl, _, SqL.of h14⟩, t, rfl, _, SqT.of (by rw [upd_ne tsp]; exact hr0), _, rfl, _, h14, by rw [List.length_map]; omega, _, ?_, ((s1.trans s13).put hsp0).put hco, ls ++ [bv], ?_, us ++ [t], ?_, ps ++ [(av, bv)], ?_, ?_, ?_, ?_, ?_, rfl⟩
        · rw [List.length_append]
          simp only [List.length_cons, List.length_nil]
          omega
        · rw [upd_same, List.map_append]
          rfl
        · rw [upd_ne nsp, upd_same, List.map_append]
          rfl
        · rw [off_p, off_c]
          exact T4
        · rw [els, List.map_append]
          rfl
        · refine List.nodup_append.mpr ⟨nd, by simp, fun a ha b' hb e => ?_⟩
          have : b' = bv := by simpa using hb
          subst this
          subst e
          exact w3 ha
        · intro x hx
          rcases List.mem_append.mp hx with h | h
          · exact hr x h
          · have : x = bv := by simpa using h
            subst this
            exact bR
        · intro i p' hi
          by_cases ci : i < ps.length
          · rw [List.getElem?_append_left ci] at hi
            rw [List.take_append_of_le_length (by omega)]
            exact ok i p' hi
          · have li := (List.getElem?_eq_some_iff.mp hi).1
            rw [List.length_append] at li
            simp only [List.length_cons, List.length_nil] at li
            have ei : i = ps.length := by omega
            subst ei
            rw [List.getElem?_append_right (Nat.le_refl _), Nat.sub_self, List.getElem?_cons_zero] at hi
            cases hi
            rw [List.take_append_of_le_length (Nat.le_refl _), List.take_length]
            refine ⟨(inls _).mp w2, ?_, w1⟩
            exact Classical.byContradiction fun z => w3 ((inls _).mpr z)
    · have hlen : (ls.length : Int) = m := by omega
      refine q sp us ps H1 s1 h2 (hT.same (off_le co sp H1)) ⟨ok, fun x x0 x1 => ?_, by omega⟩
      rw [spC_dom]
      have hx : x ∈ ls := by
        refine Classical.byContradiction fun cx => ?_
        have := nodup_len (x :: ls) (upto m) (List.nodup_cons.mpr ⟨cx, nd⟩) fun y hy => by
          rcases List.mem_cons.mp hy with rfl | hy
          · exact mem_ints.mpr ⟨x0, x1⟩
          · exact mem_ints.mpr (hr y hy)
        unfold upto at this
        rw [List.length_cons, List.length_map, List.length_range] at this
        omega
      rw [els] at hx
      rcases List.mem_cons.mp hx with h | h
      · exact .inl h
      · obtain ⟨p', hp', e⟩ := List.mem_map.mp h
        exact .inr ⟨p', hp', e⟩
theorem sc__law_spread : FnScope ["_law_script", "_law_start", "_law_near_here", "_law_come", "_law_spread_here", "_law_some", "_law_pair"] ["_law_script", "_law_start", "_law_near_here"] (defScope s__law_spread) := ⟨rfl, rfl, rfl, by decide +kernel, rfl, by decide +kernel, by decide +kernel⟩
theorem ok__law_spread (T : Txt K mg a) : FnOk P w K mg base CX0 2 a.f__law_spread a.d__law_spread ["_law_script", "_law_start", "_law_near_here"] (spSpread K) := by
  have G__law_mixed := ok__law_mixed (P := P) (w := w) (base := base) T
  have G__law_pairs := ok__law_pairs (P := P) (w := w) (base := base) T
  refine T.F__law_spread.ok sc__law_spread (fun vs H Q E h => ?_) (fun cdv A outer s H vs Q E hr h => ?_)
  · obtain ⟨p, nl, ns, st, ds, m, rs, rfl, hS, hl, st0, st1, N, G, q⟩ := h
    rfl
  obtain ⟨p, nl, ns, st, ds, m, rs, rfl, hS, hl, st0, st1, N, G, q⟩ := h
  exact ⟨t__law_spread K, (pss_cons (ps_set (i := 3) sc__law_spread.nd rfl (Or.inr rfl) (pe_lst (pa_cons pe_int pa_nil)))
  (pss_cons (ps_set (i := 4) sc__law_spread.nd rfl (Or.inl rfl) (pe_lst pa_nil))
  (pss_cons (ps_while PassesOwn.never (pt_cmpR op_lt (pe_callB call_len_seq rfl T.z_len PySem.boot_len (pa_cons (pv 3) pa_nil)) (pe_callB call_len_seq rfl T.z_len PySem.boot_len (pa_cons (pv 2) pa_nil)) (nomark _)) (pss_cons (ps_setComp (i := 5) sc__law_spread.nd rfl rfl (sc := defScope s__law_spread) (N := ["_law_script", "_law_start", "_law_near_here", "_law_come", "_law_spread_here", "_law_some", "_law_pair"]) (Nc := ["_law_a", "_law_b", "_law_come"]) (cap := [none, none, some 3]) rfl rfl rfl (.of (by decide +kernel)) (pi_list (pe_call G__law_pairs (hr.mono (by decide)) rfl T.m__law_pairs T.F__law_pairs.kp T.b__law_pairs .nil pass0 (pa_cons (pv 2) pa_nil))) (fun _ _ _ _ => (pg_tup rfl (pgs_cons (pg_name (i := 0) (show List.Nodup (["_law_a", "_law_b", "_law_come"] : List Str) from by decide) rfl (Or.inl rfl)) (pgs_cons (pg_name (i := 1) (show List.Nodup (["_law_a", "_law_b", "_law_come"] : List Str) from by decide) rfl (Or.inl rfl)) pgs_nil)))) (fun _ _ _ _ => (pts_one (PW.pt (pw_and (pt_cmpR op_in_seq (pv 0) (pv 2) (by with_unfolding_all rfl)) (pw_and1 (pt_cmpR op_notIn_seq (pv 1) (pv 2) (by with_unfolding_all rfl))))))) (fun _ _ _ _ => (pe_tup (pa_cons (pv 0) (pa_cons (pv 1) pa_nil)))))
  (pss_cons (ps_set (i := 6) sc__law_spread.nd rfl (Or.inl rfl) (pe_ix ix_list (pv 5) (pe_op op_mod (pe_call G__law_mixed (hr.mono (by decide)) rfl T.m__law_mixed T.F__law_mixed.kp T.b__law_mixed .nil pass0 (pa_cons (pv 0) (pa_cons (pe_op op_add (pv 1) (pe_callB call_len_seq rfl T.z_len PySem.boot_len (pa_cons (pv 4) pa_nil))) pa_nil))) (pe_callB call_len_seq rfl T.z_len PySem.boot_len (pa_cons (pv 5) pa_nil))) (fun _ _ => rfl)))
  (pss_cons (ps_expr (pe_bm PySem.F.plainAttrs_list PySem.F.slot_list_append PySem.F.type_list_append mt_append (pv 4) (pa_cons (pv 6) pa_nil)))
  (pss_one (ps_expr (pe_bm PySem.F.plainAttrs_list PySem.F.slot_list_append PySem.F.type_list_append mt_append (pv 3) (pa_cons (pe_ix ix_tup (pv 6) pe_int (fun _ _ => rfl)) pa_nil))))))))
  (pss_one (ps_ret (pv 4)))))),
    rd__law_spread hS hl st0 st1 N G q⟩

/-- a set of places that no road leaves, with one of them, has all -/
theorem closed_all {m : Int} {rs : List Road} (G : GW m rs) {S : Int → Prop} {x0 : Int} (h0 : S x0) (r0 : 0 ≤ x0) (r1 : x0 < m) (hc : ∀ x y, S x → sh rs x y ≠ none → S y) : ∀ x, 0 ≤ x → x < m → S x := by
  have clo : ∀ r ∈ rs, (S r.1 ↔ S r.2.1) := fun r hr => by
    have e1 := sh_road hr
    have e2 : sh rs r.2.1 r.1 ≠ none := by rw [sh_sym]; exact e1
    exact ⟨fun z => hc _ _ z e1, fun z => hc _ _ z e2⟩
  by_cases c : S 0
  · exact G.conn S c fun r hr z => z.elim (fun a => ⟨a, (clo r hr).mp a⟩) (fun b => ⟨(clo r hr).mpr b, b⟩)
  · have := G.conn (fun x => ¬ S x) c (fun r hr z => z.elim (fun a => ⟨a, fun b => a ((clo r hr).mpr b)⟩) (fun b => ⟨fun a => b ((clo r hr).mp a), b⟩)) x0 r0 r1
    exact absurd h0 this

/-- a way: joined, from behind st -/
structure Way (rs : List Road) (st : Int) (path : List Int) : Prop where
  ok : ∀ (i : Nat) a b, (st :: path)[i]? = some a → (st :: path)[i + 1]? = some b → sh rs a b ≠ none
/-- a search: the row of places met, and for each but the first the one from which it was met, earlier in the row -/
structure Sch (rs : List Road) (m st : Int) (row : List Int) (kvs : List (Key × V)) : Prop where
  first : row[0]? = some st
  nd : row.Nodup
  inR : ∀ x ∈ row, 0 ≤ x ∧ x < m
  dom : ∀ x : Int, valV kvs (.inl x) ≠ none ↔ x ∈ row
  back : ∀ (j : Nat) x, 0 < j → row[j]? = some x → ∃ (i : Nat) (y : Int), i < j ∧ row[i]? = some y ∧ valV kvs (.inl x) = some (.int y) ∧ sh rs y x ≠ none
  len : kvs.length ≤ row.length
theorem Sch.put {rs : List Road} {m st : Int} {row : List Int} {kvs : List (Key × V)} (h : Sch rs m st row kvs) {i : Nat} {x y : Int} (hy : row[i]? = some y) (hx : x ∉ row) (x0 : 0 ≤ x) (x1 : x < m) (hs : sh rs y x ≠ none) : Sch rs m st (row ++ [x]) (putK kvs (.inl x) (.int y)) := by
  have hv : valV kvs (.inl x) = none := Classical.byContradiction fun c => hx ((h.dom x).mp c)
  refine ⟨?_, ?_, ?_, fun z => ?_, ?_, ?_⟩
  · rw [List.getElem?_append_left (List.getElem?_eq_some_iff.mp h.first).1]
    exact h.first
  · refine List.nodup_append.mpr ⟨h.nd, by simp, fun a ha b hb e => ?_⟩
    have : b = x := by simpa using hb
    subst this
    subst e
    exact hx ha
  · intro z hz
    rcases List.mem_append.mp hz with h' | h'
    · exact h.inR z h'
    · have : z = x := by simpa using h'
      subst this
      exact ⟨x0, x1⟩
  · rw [valV_put, List.mem_append]
    by_cases c : z = x
    · subst c
      simp
    · rw [if_neg fun w => c (Sum.inl.inj w), h.dom]
      simp [c]
  · intro j z j0 hz
    by_cases c : j < row.length
    · rw [List.getElem?_append_left c] at hz
      obtain ⟨k, y', k1, k2, k3, k4⟩ := h.back j z j0 hz
      have nz : z ≠ x := fun e => hx (e ▸ List.mem_of_getElem? hz)
      refine ⟨k, y', k1, ?_, ?_, k4⟩
      · rw [List.getElem?_append_left (List.getElem?_eq_some_iff.mp k2).1]
        exact k2
      · rw [valV_put, if_neg fun w => nz (Sum.inl.inj w)]
        exact k3
    · have lj := (List.getElem?_eq_some_iff.mp hz).1
      rw [List.length_append] at lj
      simp only [List.length_cons, List.length_nil] at lj
      have ej : j = row.length := by omega
      subst ej
      rw [List.getElem?_append_right (Nat.le_refl _), Nat.sub_self, List.getElem?_cons_zero] at hz
      cases hz
      have li := (List.getElem?_eq_some_iff.mp hy).1
      refine ⟨i, y, li, ?_, ?_, hs⟩
      · rw [List.getElem?_append_left li]
        exact hy
      · rw [valV_put, if_pos rfl]
  · have := length_putK kvs (.inl x) (.int y)
    have := h.len
    rw [List.length_append]
    simp only [List.length_cons, List.length_nil]
    omega
theorem Sch.le {rs : List Road} {m st : Int} {row : List Int} {kvs : List (Key × V)} (h : Sch rs m st row kvs) : (row.length : Int) ≤ m := by
  have h0 := h.inR st (List.mem_of_getElem? h.first)
  have := nodup_len row (upto m) h.nd fun x hx => mem_ints.mpr (h.inR x hx)
  unfold upto at this
  rw [List.length_map, List.length_range] at this
  omega
def spWay : Sp := fun vs H Q _ => ∃ (nl co : Addr) (ds : List Addr) (m : Int) (rs : List Road) (st : Int) (ws : List Int), vs = [.ref nl, .int st, .ref co] ∧ NearH H nl ds m rs ∧ GW m rs ∧ H co = some (.lst (ws.map V.int)) ∧ st ∈ ws ∧ 0 ≤ st ∧ st < m ∧ (∃ x, 0 ≤ x ∧ x < m ∧ x ∉ ws) ∧
  ∀ (r : Addr) (path : List Int) (H' : Hp), Same H H' → H' r = some (.lst (path.map V.int)) → Way rs st path → path.length ≤ 60 → (∃ x ∈ path, x ∉ ws) → (∀ x ∈ path, 0 ≤ x ∧ x < m) → Q (.ref r) H'
def t__law_way_0 (K : PySem.W.Frag) : TS :=
  (tIfS (tB (tDNotIn (tVar 6) (tVar 3))) (tSeq (sDPut (tVar 3) (tVar 6) (tOp (rIxL K) (tVar 4) (tVar 5)))
  (tDrop (tBM K "list" rAppend (tVar 4) (tCons (tVar 6) tNil)))) tNext)
theorem t__law_way_0_eq (K : PySem.W.Frag) (D : Ends) (σ : St) (H : Hp) : t__law_way_0 K D σ H = (tIfS (tB (tDNotIn (tVar 6) (tVar 3))) (tSeq (sDPut (tVar 3) (tVar 6) (tOp (rIxL K) (tVar 4) (tVar 5)))
  (tDrop (tBM K "list" rAppend (tVar 4) (tCons (tVar 6) tNil)))) tNext) D σ H := rfl
def t__law_way_1 (K : PySem.W.Frag) : TS :=
  (tSeq (tFor (iList K (tCB rSortedD (tCons (tOp (rIxL K) (tVar 0) (tOp (rIxL K) (tVar 4) (tVar 5))) tNil))) (gName 6)
  (t__law_way_0 K))
  (tAsg (tOp (rI0 fun i j => .int (i + j)) (tVar 5) (tC (.int 1))) (gName 5)))
theorem t__law_way_1_eq (K : PySem.W.Frag) (D : Ends) (σ : St) (H : Hp) : t__law_way_1 K D σ H = (tSeq (tFor (iList K (tCB rSortedD (tCons (tOp (rIxL K) (tVar 0) (tOp (rIxL K) (tVar 4) (tVar 5))) tNil))) (gName 6)
  (t__law_way_0 K))
  (tAsg (tOp (rI0 fun i j => .int (i + j)) (tVar 5) (tC (.int 1))) (gName 5))) D σ H := rfl
def t__law_way_2 (K : PySem.W.Frag) : TS :=
  (tSeq (tAsg (tLst (tCons (tOp (rIxL K) (tVar 4) (tVar 5)) tNil)) (gName 7))
  (tSeq (tWhile (tTest (tOp rNe (tDGet (tVar 3) (tOp (rIxL K) (tVar 7) (tC (.int 0)))) (tVar 1))) (tAsg (tOp rCat (tLst (tCons (tDGet (tVar 3) (tOp (rIxL K) (tVar 7) (tC (.int 0)))) tNil)) (tVar 7)) (gName 7)))
  (tRet (tVar 7))))
theorem t__law_way_2_eq (K : PySem.W.Frag) (D : Ends) (σ : St) (H : Hp) : t__law_way_2 K D σ H = (tSeq (tAsg (tLst (tCons (tOp (rIxL K) (tVar 4) (tVar 5)) tNil)) (gName 7))
  (tSeq (tWhile (tTest (tOp rNe (tDGet (tVar 3) (tOp (rIxL K) (tVar 7) (tC (.int 0)))) (tVar 1))) (tAsg (tOp rCat (tLst (tCons (tDGet (tVar 3) (tOp (rIxL K) (tVar 7) (tC (.int 0)))) tNil)) (tVar 7)) (gName 7)))
  (tRet (tVar 7)))) D σ H := rfl
def t__law_way (K : PySem.W.Frag) : TS :=
  (tSeq (tAsg tDNewK (gName 3))
  (tSeq (sDPut (tVar 3) (tVar 1) (tC .non))
  (tSeq (tAsg (tLst (tCons (tVar 1) tNil)) (gName 4))
  (tSeq (tAsg (tC (.int 0)) (gName 5))
  (tSeq (tWhile (tTest (tOp (rIn K false) (tOp (rIxL K) (tVar 4) (tVar 5)) (tVar 2))) (t__law_way_1 K))
  (t__law_way_2 K))))))
theorem rd__law_way {nl co : Addr} {ds : List Addr} {m : Int} {rs : List Road} {st : Int} {ws : List Int} (N : NearH H nl ds m rs) (G : GW m rs) (hco : H co = some (.lst (ws.map V.int))) (hst : st ∈ ws) (st0 : 0 ≤ st) (st1 : st < m) (hout : ∃ x, 0 ≤ x ∧ x < m ∧ x ∉ ws)
    (q : ∀ (r : Addr) (path : List Int) (H' : Hp), Same H H' → H' r = some (.lst (path.map V.int)) → Way rs st path → path.length ≤ 60 → (∃ x ∈ path, x ∉ ws) → (∀ x ∈ path, 0 ≤ x ∧ x < m) → Q (.ref r) H') :
    t__law_way K { nx := fun _ H' => Q .non H', rt := Q } (L2.start ["_law_near_here", "_law_start", "_law_come", "_law_prior", "_law_row", "_law_at", "_law_other", "_law_path"] [.ref nl, .int st, .ref co]) H := by
  unfold t__law_way
  have m1 := G.m1
  have m60 := G.m60
  have big : (1000 : Nat) < sizeLine := by decide
  simp only [t__law_way_0_eq, t__law_way_1_eq, t__law_way_2_eq, rSetOf, rLenS, rSortedD, rIn, tDGet, tDNotIn, sDPut, tDNewK, tComp_eq, capS, rAppend, Option.bind_some, Option.bind_none, Option.join_some, Option.map_some, List.getElem?_cons_zero, List.getElem?_cons_succ, rCat, V.str.injEq, V.ty.injEq, tBM, tFor_eq, iRng1, iList, tSeq, tNext, tAsg, gName, tCB, tCons, tNil, tVar, tC, tOp, tUn, tTest, tB, tIfS, tRet, tDrop, tLst, tCall, rI, rI0, rU, rNe, rIxL, L2.start, truV_int, truV_bl, scal_int, scal_bl, List.map_cons, List.map_nil, List.length_cons, List.length_nil, List.replicate, List.cons_append, List.nil_append, List.append_nil, Option.some.injEq, exists_eq_left', exists_eq_left, exists_and_left, List.cons.injEq, V.int.injEq, V.ref.injEq, V.bl.injEq, and_true, true_and, List.set_cons_zero, List.set_cons_succ, Nat.reduceAdd, Nat.reduceSub, Int.reduceToNat, Int.reducePow, Int.reduceNeg, Int.reduceMul, Int.reduceAdd, Int.reduceSub, decide_eq_true_eq, Bool.not_eq_true', decide_eq_false_iff_not, exists_const, and_assoc, exists_eq, exists_eq', if_true, if_false, Bool.false_eq_true, Bool.true_eq_false, reduceCtorEq, not_true_eq_false, not_false_eq_true]
  intro d hd
  have s0 := same_new hd (.dK [])
  refine ⟨_, DPut.k (k := .inl st) upd_same (by decide), by decide, fun ro hro => ?_⟩
  have s1 := s0.put hd (o := .dK (putK [] (.inl st) .non))
  have hdk : (L2.upd (L2.upd H d (.dK [])) d (.dK (putK [] (.inl st) .non))) d = some (.dK [(.inl st, .non)]) := upd_same
  generalize L2.upd (L2.upd H d (.dK [])) d (.dK (putK [] (.inl st) .non)) = H1 at s1 hdk hro ⊢
  have nrd : ro ≠ d := (ne_of_none hdk hro).symm
  have hro0 : H ro = none := s1.free hro
  have S0 : Sch rs m st [st] [(.inl st, .non)] := by
    refine ⟨rfl, by simp, fun x hx => ?_, fun x => ?_, fun j x j0 hj => ?_, Nat.le_refl _⟩
    · have : x = st := by simpa using hx
      subst this
      exact ⟨st0, st1⟩
    · by_cases c : st = x
      · subst c
        rw [valV_pos (p := (Sum.inl st, V.non)) rfl]
        simp
      · rw [valV_neg (p := (Sum.inl st, V.non)) fun z => c (Sum.inl.inj z), valV_nil]
        simp [Ne.symm c]
    · have := (List.getElem?_eq_some_iff.mp hj).1
      simp only [List.length_cons, List.length_nil] at this
      omega
  refine while_W (m := 100) (fun n σ H' => Same H H' ∧ ∃ (row : List Int) (kvs : List (Key × V)) (k : Nat) (x : Option V), H' d = some (.dK kvs) ∧ H' ro = some (.lst (row.map V.int)) ∧ Sch rs m st row kvs ∧ k < row.length ∧ (∀ (j : Nat) a, j < k → row[j]? = some a → a ∈ ws ∧ ∀ b, sh rs a b ≠ none → b ∈ row) ∧ n = 100 - k ∧ σ = [some (.ref nl), some (.int st), some (.ref co), some (.ref d), some (.ref ro), some (.int (k : Int)), x, none]) ?_ ?_
  · exact ⟨s1.add hro, [st], _, 0, _, by rw [upd_ne nrd.symm]; exact hdk, upd_same, S0, by simp, fun j a hj => by omega, rfl, rfl⟩
  · rintro n σ H2 ⟨s2, row, kvs, k, x, hd2, hr2, S, hk, hdone, rfl, rfl⟩
    have ek : row[k]? = some row[k] := List.getElem?_eq_getElem hk
    generalize row[k] = cur at ek
    have ik : atI (row.map V.int) (k : Int) = some (.int cur) := atI_nat (by rw [List.getElem?_map, ek]; rfl)
    have lrow := S.le
    have N2 := N.same s2
    have curR := S.inR cur (mem_at ek)
    simp only [t__law_way_0_eq, t__law_way_1_eq, t__law_way_2_eq, rSetOf, rLenS, rSortedD, rIn, tDGet, tDNotIn, sDPut, tDNewK, tComp_eq, capS, rAppend, Option.bind_some, Option.bind_none, Option.join_some, Option.map_some, List.getElem?_cons_zero, List.getElem?_cons_succ, rCat, V.str.injEq, V.ty.injEq, tBM, tFor_eq, iRng1, iList, tSeq, tNext, tAsg, gName, tCB, tCons, tNil, tVar, tC, tOp, tUn, tTest, tB, tIfS, tRet, tDrop, tLst, tCall, rI, rI0, rU, rNe, rIxL, L2.start, truV_int, truV_bl, scal_int, scal_bl, List.map_cons, List.map_nil, List.length_cons, List.length_nil, List.replicate, List.cons_append, List.nil_append, List.append_nil, Option.some.injEq, exists_eq_left', exists_eq_left, exists_and_left, List.cons.injEq, V.int.injEq, V.ref.injEq, V.bl.injEq, and_true, true_and, List.set_cons_zero, List.set_cons_succ, Nat.reduceAdd, Nat.reduceSub, Int.reduceToNat, Int.reducePow, Int.reduceNeg, Int.reduceMul, Int.reduceAdd, Int.reduceSub, decide_eq_true_eq, Bool.not_eq_true', decide_eq_false_iff_not, exists_const, and_assoc, exists_eq, exists_eq', if_true, if_false, Bool.false_eq_true, Bool.true_eq_false, reduceCtorEq, not_true_eq_false, not_false_eq_true]
    refine ⟨_, SqL.of hr2, _, ik, _, .inl (SqL.of (s2 _ _ hco)), rfl, flat_ints ws, ?_⟩
    rw [inV_int]
    refine ite2 (fun c => ?_) (fun c => ?_)
    · have c' : cur ∈ ws := of_decide_eq_true c
      refine ⟨_, fun _ _ h => h, ?_⟩
      obtain ⟨dd, kv2, e1, e2, e3⟩ := N2.at curR.1 curR.2
      obtain ⟨ks, ekk, k64, hks, _⟩ := e3.nbs G
      refine ⟨_, SqL.of hr2, _, ik, _, _, rfl, SqL.of N2.hl, _, e1, _, rfl, kv2, e2, ks, ekk, k64, fun so ns hso hperm _ => ?_⟩
      have hns : ∀ y, y ∈ ns ↔ sh rs cur y ≠ none := fun y => by rw [hperm.mem_iff, hks]
      have nso1 : so ≠ d := (ne_of_none hd2 hso).symm
      have nso2 : so ≠ ro := (ne_of_none hr2 hso).symm
      have s3 := same_new hso (.lst (ns.map V.int))
      have h3 : (L2.upd H2 so (.lst (ns.map V.int))) so = some (.lst (ns.map V.int)) := upd_same
      generalize L2.upd H2 so (.lst (ns.map V.int)) = H3 at s3 h3 ⊢
      refine ⟨⟨_, SqL.of h3⟩, ?_⟩
      refine for_listF (K := K) (xs := ns.map V.int) (fun j σ H' => Same H H' ∧ H' so = some (.lst (ns.map V.int)) ∧ ∃ (ex : List Int) (kvs : List (Key × V)) (x : Option V), H' d = some (.dK kvs) ∧ H' ro = some (.lst ((row ++ ex).map V.int)) ∧ Sch rs m st (row ++ ex) kvs ∧ (∀ y ∈ ns.take j, y ∈ row ++ ex) ∧ σ = [some (.ref nl), some (.int st), some (.ref co), some (.ref d), some (.ref ro), some (.int (k : Int)), x, none]) ⟨s2.trans s3, h3, [], kvs, _, s3 _ _ hd2, by rw [List.append_nil]; exact s3 _ _ hr2, by rw [List.append_nil]; exact S, by simp, rfl⟩ ?_ ?_ ?_
      · rintro j σ H' _ ⟨_, h, _⟩
        exact SqL.of h
      · rintro j x σ H4 hx ⟨s4, h4, ex, kv4, z, hd4, hr4, S4, hin, rfl⟩
        obtain ⟨y, ey, rfl⟩ := map_at hx
        have hy := (hns y).mp (mem_at ey)
        obtain ⟨l, hl3⟩ := Option.ne_none_iff_exists'.mp hy
        obtain ⟨_, _, y0, y1, _⟩ := sh_mem rs G.gr _ _ _ hl3
        have le4 := S4.le
        have kl4 := S4.len
        simp only [t__law_way_0_eq, t__law_way_1_eq, t__law_way_2_eq, rSetOf, rLenS, rSortedD, rIn, tDGet, tDNotIn, sDPut, tDNewK, tComp_eq, capS, rAppend, Option.bind_some, Option.bind_none, Option.join_some, Option.map_some, List.getElem?_cons_zero, List.getElem?_cons_succ, rCat, V.str.injEq, V.ty.injEq, tBM, tFor_eq, iRng1, iList, tSeq, tNext, tAsg, gName, tCB, tCons, tNil, tVar, tC, tOp, tUn, tTest, tB, tIfS, tRet, tDrop, tLst, tCall, rI, rI0, rU, rNe, rIxL, L2.start, truV_int, truV_bl, scal_int, scal_bl, List.map_cons, List.map_nil, List.length_cons, List.length_nil, List.replicate, List.cons_append, List.nil_append, List.append_nil, Option.some.injEq, exists_eq_left', exists_eq_left, exists_and_left, List.cons.injEq, V.int.injEq, V.ref.injEq, V.bl.injEq, and_true, true_and, List.set_cons_zero, List.set_cons_succ, Nat.reduceAdd, Nat.reduceSub, Int.reduceToNat, Int.reducePow, Int.reduceNeg, Int.reduceMul, Int.reduceAdd, Int.reduceSub, decide_eq_true_eq, Bool.not_eq_true', decide_eq_false_iff_not, exists_const, and_assoc, exists_eq, exists_eq', if_true, if_false, Bool.false_eq_true, Bool.true_eq_false, reduceCtorEq, not_true_eq_false, not_false_eq_true]
        refine ⟨_, DGet.k (k := .inl y) hd4, ?_⟩
        have nxt : ∀ (row' : List Int), (∀ x ∈ row ++ ex, x ∈ row') → y ∈ row' → ∀ z ∈ ns.take (j + 1), z ∈ row' := by
          intro row' h1 h2 z hz
          rw [List.take_add_one, ey] at hz
          rcases List.mem_append.mp hz with h | h
          · exact h1 z (hin z h)
          · have : z = y := by simpa using h
            subst this
            exact h2
        by_cases cy : y ∈ row ++ ex
        · have hs : (valV kv4 (.inl y)).isSome = true := Option.isSome_iff_ne_none.mpr ((S4.dom y).mpr cy)
          rw [hs]
          exact ite2 (fun z => absurd z (by decide)) (fun _ => ⟨s4, h4, ex, kv4, hd4, hr4, S4, nxt _ (fun _ h => h) cy⟩)
        · have hv : valV kv4 (.inl y) = none := Classical.byContradiction fun c => cy ((S4.dom y).mp c)
          rw [hv]
          refine ite2 (fun _ => ?_) (fun z => absurd rfl z)
          have ek4 : (row ++ ex)[k]? = some cur := by rw [List.getElem?_append_left hk]; exact ek
          have ik4 : atI ((row ++ ex).map V.int) (k : Int) = some (.int cur) := atI_nat (by rw [List.getElem?_map, ek4]; rfl)
          have hr5 : (L2.upd H4 d (.dK (putK kv4 (.inl y) (.int cur)))) ro = some (.lst ((row ++ ex).map V.int)) := by rw [upd_ne nrd]; exact hr4
          refine ⟨_, SqL.of hr4, _, ik4, _, DPut.k (k := .inl y) hd4 (by omega), .inl ⟨rfl, _, SqL.of hr5⟩, _, hr5, by rw [List.length_map]; omega, (s4.put hd).put hro0, by rw [upd_ne nso2, upd_ne nso1]; exact h4, ex ++ [y], _, by rw [upd_ne nrd.symm]; exact upd_same, ?_, ?_, ?_⟩
          · rw [upd_same, ← List.append_assoc, List.map_append (l₂ := [y])]
            rfl
          · rw [← List.append_assoc]
            exact S4.put ek4 cy y0 y1 hy
          · rw [← List.append_assoc]
            exact nxt _ (fun x h => List.mem_append_left _ h) (by simp)
      · rintro σ H4 ⟨s4, h4, ex, kv4, z, hd4, hr4, S4, hin, rfl⟩
        simp only [t__law_way_0_eq, t__law_way_1_eq, t__law_way_2_eq, rSetOf, rLenS, rSortedD, rIn, tDGet, tDNotIn, sDPut, tDNewK, tComp_eq, capS, rAppend, Option.bind_some, Option.bind_none, Option.join_some, Option.map_some, List.getElem?_cons_zero, List.getElem?_cons_succ, rCat, V.str.injEq, V.ty.injEq, tBM, tFor_eq, iRng1, iList, tSeq, tNext, tAsg, gName, tCB, tCons, tNil, tVar, tC, tOp, tUn, tTest, tB, tIfS, tRet, tDrop, tLst, tCall, rI, rI0, rU, rNe, rIxL, L2.start, truV_int, truV_bl, scal_int, scal_bl, List.map_cons, List.map_nil, List.length_cons, List.length_nil, List.replicate, List.cons_append, List.nil_append, List.append_nil, Option.some.injEq, exists_eq_left', exists_eq_left, exists_and_left, List.cons.injEq, V.int.injEq, V.ref.injEq, V.bl.injEq, and_true, true_and, List.set_cons_zero, List.set_cons_succ, Nat.reduceAdd, Nat.reduceSub, Int.reduceToNat, Int.reducePow, Int.reduceNeg, Int.reduceMul, Int.reduceAdd, Int.reduceSub, decide_eq_true_eq, Bool.not_eq_true', decide_eq_false_iff_not, exists_const, and_assoc, exists_eq, exists_eq', if_true, if_false, Bool.false_eq_true, Bool.true_eq_false, reduceCtorEq, not_true_eq_false, not_false_eq_true]
        rw [List.length_map, List.take_length] at hin
        have le4 := S4.le
        have done' : ∀ (j : Nat) a, j < k + 1 → (row ++ ex)[j]? = some a → a ∈ ws ∧ ∀ b, sh rs a b ≠ none → b ∈ row ++ ex := by
          intro j a hj ha
          rw [List.getElem?_append_left (by omega)] at ha
          by_cases cj : j < k
          · obtain ⟨w1, w2⟩ := hdone j a cj ha
            exact ⟨w1, fun b hb => List.mem_append_left _ (w2 b hb)⟩
          · have : j = k := by omega
            subst this
            rw [ek] at ha
            cases ha
            exact ⟨c', fun b hb => hin b ((hns b).mpr hb)⟩
        refine ⟨_, ?_, s4, row ++ ex, kv4, hd4, hr4, S4, k + 1, ?_, done', rfl, by omega⟩
        · omega
        · refine Nat.lt_of_le_of_ne (by rw [List.length_append]; omega) fun e => ?_
          obtain ⟨x0, x00, x01, x0n⟩ := hout
          refine x0n ?_
          have hall := closed_all G (S := fun x => x ∈ row ++ ex) (x0 := st) (List.mem_of_getElem? S4.first) st0 st1 (fun x y hx hy => ?_) x0 x00 x01
          · obtain ⟨j, hj⟩ := List.getElem?_of_mem hall
            have lj := (List.getElem?_eq_some_iff.mp hj).1
            exact (done' j x0 (by omega) hj).1
          · obtain ⟨j, hj⟩ := List.getElem?_of_mem hx
            have lj := (List.getElem?_eq_some_iff.mp hj).1
            exact (done' j x (by omega) hj).2 y hy
    · have c' : cur ∉ ws := fun z => c (decide_eq_true z)
      have k0 : 0 < k := by
        refine Nat.pos_of_ne_zero fun z => ?_
        subst z
        rw [S.first] at ek
        cases ek
        exact c' hst
      refine ⟨_, SqL.of hr2, _, ik, by decide, fun l0 hl0 => ?_⟩
      have s3 := same_new hl0 (.lst [V.int cur])
      have h3 : (L2.upd H2 l0 (.lst [V.int cur])) l0 = some (.lst [V.int cur]) := upd_same
      generalize L2.upd H2 l0 (.lst [V.int cur]) = H3 at s3 h3 ⊢
      have hd3 := s3 _ _ hd2
      refine while_W (m := 100) (fun n σ H' => Same H3 H' ∧ ∃ (l : Addr) (y : Int) (rest : List Int) (j : Nat), H' l = some (.lst ((y :: rest).map V.int)) ∧ row[j]? = some y ∧ 0 < j ∧ j + rest.length ≤ k ∧ (∀ (i : Nat) a b, (y :: rest)[i]? = some a → (y :: rest)[i + 1]? = some b → sh rs a b ≠ none) ∧ cur ∈ y :: rest ∧ (∀ x ∈ y :: rest, x ∈ row) ∧ n ≥ j ∧ σ = [some (.ref nl), some (.int st), some (.ref co), some (.ref d), some (.ref ro), some (.int (k : Int)), x, some (.ref l)]) ?_ ?_
      · refine ⟨.refl _, l0, cur, [], k, h3, ek, k0, by simp, fun i a b e1 e2 => ?_, by simp, fun x hx => ?_, by omega, rfl⟩
        · simp at e2
        · have : x = cur := by simpa using hx
          subst this
          exact mem_at ek
      · rintro n σ H4 ⟨s4, l, y, rest, j, hl4, ej, j0, hlen, hj, hcur, hrow, hn, rfl⟩
        obtain ⟨i, z, i1, i2, i3, i4⟩ := S.back j y j0 ej
        have hd4 := s4 _ _ hd3
        have hg := DGet.k (k := .inl y) hd4
        rw [i3] at hg
        have i0 : atI ((y :: rest).map V.int) 0 = some (.int y) := atI_nat (j := 0) rfl
        simp only [t__law_way_0_eq, t__law_way_1_eq, t__law_way_2_eq, rSetOf, rLenS, rSortedD, rIn, tDGet, tDNotIn, sDPut, tDNewK, tComp_eq, capS, rAppend, Option.bind_some, Option.bind_none, Option.join_some, Option.map_some, List.getElem?_cons_zero, List.getElem?_cons_succ, rCat, V.str.injEq, V.ty.injEq, tBM, tFor_eq, iRng1, iList, tSeq, tNext, tAsg, gName, tCB, tCons, tNil, tVar, tC, tOp, tUn, tTest, tB, tIfS, tRet, tDrop, tLst, tCall, rI, rI0, rU, rNe, rIxL, L2.start, truV_int, truV_bl, scal_int, scal_bl, List.map_cons, List.map_nil, List.length_cons, List.length_nil, List.replicate, List.cons_append, List.nil_append, List.append_nil, Option.some.injEq, exists_eq_left', exists_eq_left, exists_and_left, List.cons.injEq, V.int.injEq, V.ref.injEq, V.bl.injEq, and_true, true_and, List.set_cons_zero, List.set_cons_succ, Nat.reduceAdd, Nat.reduceSub, Int.reduceToNat, Int.reducePow, Int.reduceNeg, Int.reduceMul, Int.reduceAdd, Int.reduceSub, decide_eq_true_eq, Bool.not_eq_true', decide_eq_false_iff_not, exists_const, and_assoc, exists_eq, exists_eq', if_true, if_false, Bool.false_eq_true, Bool.true_eq_false, reduceCtorEq, not_true_eq_false, not_false_eq_true] at i0 ⊢
        refine ⟨_, SqL.of hl4, _, i0, _, hg, rfl, ?_⟩
        refine ite2 (fun cz => ?_) (fun cz => ?_)
        · have cz' : z ≠ st := fun e => cz (by rw [e])
          refine ⟨_, fun _ _ h => h, _, SqL.of hl4, _, i0, _, hg, by decide, fun p1 hp1 => ?_⟩
          have s5 := same_new hp1 (.lst [V.int z])
          have h5 : (L2.upd H4 p1 (.lst [V.int z])) p1 = some (.lst [V.int z]) := upd_same
          generalize L2.upd H4 p1 (.lst [V.int z]) = H5 at s5 h5 ⊢
          have lr := S.le
          refine ⟨_, h5, _, s5 _ _ hl4, by rw [List.length_map, List.length_cons]; simp only [List.length_cons, List.length_nil]; omega, fun p2 hp2 => ?_⟩
          have i00 : 0 < i := by
            refine Nat.pos_of_ne_zero fun e => ?_
            subst e
            rw [S.first] at i2
            cases i2
            exact cz' rfl
          refine ⟨i, by omega, (s4.trans s5).add hp2, p2, z, y :: rest, upd_same, i, i2, i00, by rw [List.length_cons]; omega, fun e a b e1 e2 => ?_, List.mem_cons_of_mem _ hcur, fun x hx => ?_, Nat.le_refl _, rfl⟩
          · cases e with
            | zero =>
              simp only [List.getElem?_cons_zero, Option.some.injEq] at e1 e2
              subst e1 e2
              exact i4
            | succ e =>
              rw [List.getElem?_cons_succ] at e1
              exact hj e a b e1 e2
          · rcases List.mem_cons.mp hx with rfl | h
            · exact mem_at i2
            · exact hrow x h
        · have cz' : z = st := by
            have : V.int z = V.int st := Classical.byContradiction cz
            injection this
          subst cz'
          have lr := S.le
          refine q l (y :: rest) H4 ((s2.trans s3).trans s4) hl4 ⟨fun e a b e1 e2 => ?_⟩ (by rw [List.length_cons]; omega) ⟨cur, hcur, c'⟩ fun x hx => S.inR x (hrow x hx)
          cases e with
          | zero =>
            simp only [List.getElem?_cons_zero, List.getElem?_cons_succ, Option.some.injEq] at e1 e2
            subst e1 e2
            exact i4
          | succ e =>
            rw [List.getElem?_cons_succ] at e1 e2
            exact hj e a b e1 e2
theorem sc__law_way : FnScope ["_law_near_here", "_law_start", "_law_come", "_law_prior", "_law_row", "_law_at", "_law_other", "_law_path"] ["_law_near_here", "_law_start", "_law_come"] (defScope s__law_way) := ⟨rfl, rfl, rfl, by decide +kernel, rfl, by decide +kernel, by decide +kernel⟩
theorem ok__law_way (T : Txt K mg a) : FnOk P w K mg base CX0 1 a.f__law_way a.d__law_way ["_law_near_here", "_law_start", "_law_come"] spWay := by
  refine T.F__law_way.ok sc__law_way (fun vs H Q E h => ?_) (fun cdv A outer s H vs Q E hr h => ?_)
  · obtain ⟨nl, co, ds, m, rs, st, ws, rfl, N, G, hco, hst, st0, st1, hout, q⟩ := h
    rfl
  obtain ⟨nl, co, ds, m, rs, st, ws, rfl, N, G, hco, hst, st0, st1, hout, q⟩ := h
  exact ⟨t__law_way K, (pss_cons (ps_set (i := 3) sc__law_way.nd rfl (Or.inl rfl) pe_dnewK)
  (pss_cons (ps_dput (hu_of hr) (pv 3) (pv 1) pe_non rfl)
  (pss_cons (ps_set (i := 4) sc__law_way.nd rfl (Or.inl rfl) (pe_lst (pa_cons (pv 1) pa_nil)))
  (pss_cons (ps_set (i := 5) sc__law_way.nd rfl (Or.inl rfl) pe_int)
  (pss_cons (ps_while PassesOwn.never (pt_cmpR op_in_seq (pe_ix ix_list (pv 4) (pv 5) (fun _ _ => rfl)) (pv 2) (by with_unfolding_all rfl)) (pss_cons (ps_for PassesOwn.never rfl (pi_list (pe_callB (call_sortedD rfl) rfl T.z_sorted PyProof.Rows.boot_sorted (pa_cons (pe_ix ix_list (pv 0) (pe_ix ix_list (pv 4) (pv 5) (fun _ _ => rfl)) (fun _ _ => rfl)) pa_nil))) (pg_name (i := 6) sc__law_way.nd rfl (Or.inl rfl))
  (pss_one (ps_if (pt_cmp (pc_dnotin (hu_of hr) (pv 6) (pv 3))) (pss_cons (ps_dput (hu_of hr) (pv 3) (pv 6) (pe_ix ix_list (pv 4) (pv 5) (fun _ _ => rfl)) rfl)
  (pss_one (ps_expr (pe_bm PySem.F.plainAttrs_list PySem.F.slot_list_append PySem.F.type_list_append mt_append (pv 4) (pa_cons (pv 6) pa_nil))))) pss_nil)))
  (pss_one (ps_set (i := 5) sc__law_way.nd rfl (Or.inl rfl) (pe_op op_add (pv 5) pe_int)))))
  (pss_cons (ps_set (i := 7) sc__law_way.nd rfl (Or.inl rfl) (pe_lst (pa_cons (pe_ix ix_list (pv 4) (pv 5) (fun _ _ => rfl)) pa_nil)))
  (pss_cons (ps_while PassesOwn.never (pt_cmpR op_ne (pe_dget (hu_of hr) (pv 3) (pe_ix ix_list (pv 7) pe_int (fun _ _ => rfl)) (fun _ _ => rfl)) (pv 1) (nomark _)) (pss_one (ps_set (i := 7) sc__law_way.nd rfl (Or.inl rfl) (pe_op op_cat (pe_lst (pa_cons (pe_dget (hu_of hr) (pv 3) (pe_ix ix_list (pv 7) pe_int (fun _ _ => rfl)) (fun _ _ => rfl)) pa_nil)) (pv 7)))))
  (pss_one (ps_ret (pv 7)))))))))),
    rd__law_way N G hco hst st0 st1 hout q⟩

def spWalk (K : PySem.W.Frag) : Sp := fun vs H Q _ => ∃ (p nl : Addr) (ns : List Int) (st : Int) (ds : List Addr) (m : Int) (rs : List Road), vs = [.ref p, .int st, .ref nl] ∧ SqL K H p (ns.map V.int) ∧ ns.length ≤ 63 ∧ 0 ≤ st ∧ st ≤ 10000 ∧ NearH H nl ds m rs ∧ GW m rs ∧
  ∀ (r : Addr) (ws : List Int) (H' : Hp), Same H H' → H' r = some (.lst (ws.map V.int)) → Wlk (sh rs) m ws → ws.length ≤ 9000 → Q (.ref r) H'
/-- the last of a list -/
theorem at_last {ws : List Int} {x : Int} (h : ws[ws.length - 1]? = some x) (h0 : 0 < ws.length) : atI (ws.map V.int) (-1) = some (.int x) := by
  unfold atI ixN
  rw [List.length_map, if_neg (by decide), if_pos (by omega), Option.bind_some, List.getElem?_map, show (-1 + (ws.length : Int)).toNat = ws.length - 1 by omega, h]
  rfl
structure WkP (rs : List Road) (m : Int) (ws : List Int) : Prop where
  first : ws[0]? = some 0
  ok : ∀ (i : Nat) a b, ws[i]? = some a → ws[i + 1]? = some b → sh rs a b ≠ none
  inR : ∀ x ∈ ws, 0 ≤ x ∧ x < m
theorem WkP.app {rs : List Road} {m : Int} {ws path : List Int} {x : Int} (h : WkP rs m ws) (hx : ws[ws.length - 1]? = some x) (hw : Way rs x path) (hr : ∀ y ∈ path, 0 ≤ y ∧ y < m) : WkP rs m (ws ++ path) := by
  have pos : 0 < ws.length := (List.getElem?_eq_some_iff.mp h.first).1
  refine ⟨?_, fun i a b e1 e2 => ?_, fun y hy => ?_⟩
  · rw [List.getElem?_append_left pos]
    exact h.first
  · by_cases c : i + 1 < ws.length
    · rw [List.getElem?_append_left (by omega)] at e1
      rw [List.getElem?_append_left c] at e2
      exact h.ok i a b e1 e2
    · have key : ∀ j, ws.length - 1 ≤ j → (ws ++ path)[j]? = (x :: path)[j - (ws.length - 1)]? := by
        intro j hj
        by_cases cj : j = ws.length - 1
        · subst cj
          rw [List.getElem?_append_left (by omega), hx, Nat.sub_self, List.getElem?_cons_zero]
        · rw [List.getElem?_append_right (by omega), show j - (ws.length - 1) = (j - ws.length) + 1 by omega, List.getElem?_cons_succ]
      rw [key i (by omega)] at e1
      rw [key (i + 1) (by omega), show i + 1 - (ws.length - 1) = (i - (ws.length - 1)) + 1 by omega] at e2
      exact hw.ok _ a b e1 e2
  · rcases List.mem_append.mp hy with h' | h'
    · exact h.inR y h'
    · exact hr y h'
def t__law_walk_0 (K : PySem.W.Frag) : TS :=
  (tAsg (tOp rCat (tVar 3) (tCall spWay [] E0 (tCons (tVar 2) (tCons (tOp (rIxL K) (tVar 3) (tUn (rU fun i => .int (-i)) (tC (.int 1)))) (tCons (tVar 3) tNil))))) (gName 3))
theorem t__law_walk_0_eq (K : PySem.W.Frag) (D : Ends) (σ : St) (H : Hp) : t__law_walk_0 K D σ H = (tAsg (tOp rCat (tVar 3) (tCall spWay [] E0 (tCons (tVar 2) (tCons (tOp (rIxL K) (tVar 3) (tUn (rU fun i => .int (-i)) (tC (.int 1)))) (tCons (tVar 3) tNil))))) (gName 3)) D σ H := rfl
def t__law_walk_1 (K : PySem.W.Frag) : TS :=
  (tSeq (tAsg (tCB rSortedD (tCons (tOp (rIxL K) (tVar 2) (tOp (rIxL K) (tVar 3) (tUn (rU fun i => .int (-i)) (tC (.int 1))))) tNil)) (gName 5))
  (tIfS (tTest (tOp (rI0 fun i j => .bl (decide (j < i))) (tCB (fun xs H Q => ∃ p ys, xs = [.ref p] ∧ (SqL K H p ys ∨ SqT K H p ys) ∧ Q (.int ys.length) H) (tCons (tVar 5) tNil)) (tC (.int 0)))) (tDrop (tBM K "list" rAppend (tVar 3) (tCons (tOp (rIxL K) (tVar 5) (tOp (rI (fun _ j => 0 < j) fun i j => .int (i % j)) (tCall (spMixed K) [] E0 (tCons (tVar 0) (tCons (tOp (rI0 fun i j => .int (i + j)) (tOp (rI0 fun i j => .int (i + j)) (tVar 1) (tC (.int 1))) (tVar 4)) tNil))) (tCB (fun xs H Q => ∃ p ys, xs = [.ref p] ∧ (SqL K H p ys ∨ SqT K H p ys) ∧ Q (.int ys.length) H) (tCons (tVar 5) tNil)))) tNil))) tNext))
theorem t__law_walk_1_eq (K : PySem.W.Frag) (D : Ends) (σ : St) (H : Hp) : t__law_walk_1 K D σ H = (tSeq (tAsg (tCB rSortedD (tCons (tOp (rIxL K) (tVar 2) (tOp (rIxL K) (tVar 3) (tUn (rU fun i => .int (-i)) (tC (.int 1))))) tNil)) (gName 5))
  (tIfS (tTest (tOp (rI0 fun i j => .bl (decide (j < i))) (tCB (fun xs H Q => ∃ p ys, xs = [.ref p] ∧ (SqL K H p ys ∨ SqT K H p ys) ∧ Q (.int ys.length) H) (tCons (tVar 5) tNil)) (tC (.int 0)))) (tDrop (tBM K "list" rAppend (tVar 3) (tCons (tOp (rIxL K) (tVar 5) (tOp (rI (fun _ j => 0 < j) fun i j => .int (i % j)) (tCall (spMixed K) [] E0 (tCons (tVar 0) (tCons (tOp (rI0 fun i j => .int (i + j)) (tOp (rI0 fun i j => .int (i + j)) (tVar 1) (tC (.int 1))) (tVar 4)) tNil))) (tCB (fun xs H Q => ∃ p ys, xs = [.ref p] ∧ (SqL K H p ys ∨ SqT K H p ys) ∧ Q (.int ys.length) H) (tCons (tVar 5) tNil)))) tNil))) tNext)) D σ H := rfl
def t__law_walk_2 (K : PySem.W.Frag) : TS :=
  (tSeq (tWhile (tTest (tOp (rI0 fun i j => .bl (decide (i < j))) (tCB rLenS (tCons (tCB (rSetOf K) (tCons (tVar 3) tNil)) tNil)) (tCB (fun xs H Q => ∃ p ys, xs = [.ref p] ∧ (SqL K H p ys ∨ SqT K H p ys) ∧ Q (.int ys.length) H) (tCons (tVar 2) tNil)))) (t__law_walk_0 K))
  (tRet (tVar 3)))
theorem t__law_walk_2_eq (K : PySem.W.Frag) (D : Ends) (σ : St) (H : Hp) : t__law_walk_2 K D σ H = (tSeq (tWhile (tTest (tOp (rI0 fun i j => .bl (decide (i < j))) (tCB rLenS (tCons (tCB (rSetOf K) (tCons (tVar 3) tNil)) tNil)) (tCB (fun xs H Q => ∃ p ys, xs = [.ref p] ∧ (SqL K H p ys ∨ SqT K H p ys) ∧ Q (.int ys.length) H) (tCons (tVar 2) tNil)))) (t__law_walk_0 K))
  (tRet (tVar 3))) D σ H := rfl
def t__law_walk (K : PySem.W.Frag) : TS :=
  (tSeq (tAsg (tLst (tCons (tC (.int 0)) tNil)) (gName 3))
  (tSeq (tFor (iRng1 (tCons (tOp (rI (fun _ j => 0 < j) fun i j => .int (i % j)) (tCall (spMixed K) [] E0 (tCons (tVar 0) (tCons (tVar 1) tNil))) (tC (.int 12))) tNil)) (gName 4)
  (t__law_walk_1 K))
  (t__law_walk_2 K)))
theorem rd__law_walk {p nl : Addr} {ns : List Int} {st : Int} {ds : List Addr} {m : Int} {rs : List Road} (hS : SqL K H p (ns.map V.int)) (hl : ns.length ≤ 63) (st0 : 0 ≤ st) (st1 : st ≤ 10000) (N : NearH H nl ds m rs) (G : GW m rs)
    (q : ∀ (r : Addr) (ws : List Int) (H' : Hp), Same H H' → H' r = some (.lst (ws.map V.int)) → Wlk (sh rs) m ws → ws.length ≤ 9000 → Q (.ref r) H') :
    t__law_walk K { nx := fun _ H' => Q .non H', rt := Q } (L2.start ["_law_script", "_law_start", "_law_near_here", "_law_walk_here", "_law_k", "_law_some"] [.ref p, .int st, .ref nl]) H := by
  unfold t__law_walk
  have m1 := G.m1
  have m60 := G.m60
  have ln := N.len
  have big : (10000 : Nat) < sizeLine := by decide
  simp only [t__law_walk_0_eq, t__law_walk_1_eq, t__law_walk_2_eq, tForD, iDict, rSetOf, rLenS, rSortedD, tDGet, tComp_eq, rRep, capS, gSub, rSetL, rAppend, Option.bind_some, Option.bind_none, Option.join_some, Option.map_some, List.getElem?_cons_zero, List.getElem?_cons_succ, rCat, V.str.injEq, V.ty.injEq, tBM, tFor_eq, iRng1, tSeq, tNext, tAsg, gName, tCB, tCons, tNil, tVar, tC, tOp, tUn, tTest, tOr, tIfS, tRet, tDrop, tLst, tCall, rI, rI0, rU, rIxL, L2.start, truV_int, truV_bl, scal_int, scal_bl, List.map_cons, List.map_nil, List.length_cons, List.length_nil, List.replicate, List.cons_append, List.nil_append, List.append_nil, Option.some.injEq, exists_eq_left', exists_eq_left, exists_and_left, List.cons.injEq, V.int.injEq, V.ref.injEq, V.bl.injEq, and_true, true_and, List.set_cons_zero, List.set_cons_succ, Nat.reduceAdd, Nat.reduceSub, Int.reduceToNat, Int.reducePow, Int.reduceNeg, Int.reduceMul, Int.reduceAdd, Int.reduceSub, decide_eq_true_eq, Bool.not_eq_true', decide_eq_false_iff_not, exists_const, and_assoc, exists_eq, exists_eq', if_true, if_false, Bool.false_eq_true, Bool.true_eq_false, reduceCtorEq, not_true_eq_false, not_false_eq_true]
  refine ⟨by decide, fun wl hwl => ?_⟩
  have s1 := same_new hwl (.lst [V.int 0])
  refine ⟨p, ns, st, rfl, s1.seq hS, hl, st0, by omega, fun r r0 r1 => ?_⟩
  refine ⟨_, rfl, by decide, by omega, by omega, ?_⟩
  have c0 : 0 ≤ r % 12 := by omega
  have c1 : r % 12 < 12 := by omega
  generalize r % 12 = cnt at c0 c1 ⊢
  refine for_rangeF (fun i σ H' => Same H H' ∧ ∃ (ws : List Int) (x y : Option V), H' wl = some (.lst (ws.map V.int)) ∧ WkP rs m ws ∧ ws.length ≤ 1 + i ∧ σ = [some (.ref p), some (.int st), some (.ref nl), some (.ref wl), x, y]) ⟨s1, [0], _, _, upd_same, ⟨rfl, fun i a b e1 e2 => by simp at e2, fun x hx => ?_⟩, by simp, rfl⟩ ?_ ?_
  · have : x = 0 := by simpa using hx
    subst this
    exact ⟨by decide, by omega⟩
  · rintro i σ H2 hi ⟨s2, ws, x, y, hw2, W, lw, rfl⟩
    have N2 := N.same s2
    have pos : 0 < ws.length := (List.getElem?_eq_some_iff.mp W.first).1
    have el : ws[ws.length - 1]? = some ws[ws.length - 1] := List.getElem?_eq_getElem (by omega)
    generalize ws[ws.length - 1] = la at el
    have laR := W.inR la (mem_at el)
    obtain ⟨dd, kv2, e1, e2, e3⟩ := N2.at laR.1 laR.2
    obtain ⟨ks, ekk, k64, hks, _⟩ := e3.nbs G
    simp only [t__law_walk_0_eq, t__law_walk_1_eq, t__law_walk_2_eq, tForD, iDict, rSetOf, rLenS, rSortedD, tDGet, tComp_eq, rRep, capS, gSub, rSetL, rAppend, Option.bind_some, Option.bind_none, Option.join_some, Option.map_some, List.getElem?_cons_zero, List.getElem?_cons_succ, rCat, V.str.injEq, V.ty.injEq, tBM, tFor_eq, iRng1, tSeq, tNext, tAsg, gName, tCB, tCons, tNil, tVar, tC, tOp, tUn, tTest, tOr, tIfS, tRet, tDrop, tLst, tCall, rI, rI0, rU, rIxL, L2.start, truV_int, truV_bl, scal_int, scal_bl, List.map_cons, List.map_nil, List.length_cons, List.length_nil, List.replicate, List.cons_append, List.nil_append, List.append_nil, Option.some.injEq, exists_eq_left', exists_eq_left, exists_and_left, List.cons.injEq, V.int.injEq, V.ref.injEq, V.bl.injEq, and_true, true_and, List.set_cons_zero, List.set_cons_succ, Nat.reduceAdd, Nat.reduceSub, Int.reduceToNat, Int.reducePow, Int.reduceNeg, Int.reduceMul, Int.reduceAdd, Int.reduceSub, decide_eq_true_eq, Bool.not_eq_true', decide_eq_false_iff_not, exists_const, and_assoc, exists_eq, exists_eq', if_true, if_false, Bool.false_eq_true, Bool.true_eq_false, reduceCtorEq, not_true_eq_false, not_false_eq_true]
    refine ⟨_, SqL.of hw2, _, at_last el pos, _, _, rfl, SqL.of N2.hl, _, e1, _, rfl, kv2, e2, ks, ekk, k64, fun so ns' hso hperm _ => ?_⟩
    have hns : ∀ y, y ∈ ns' ↔ sh rs la y ≠ none := fun y => by rw [hperm.mem_iff, hks]
    have s3 := same_new hso (.lst (ns'.map V.int))
    have h3 : (L2.upd H2 so (.lst (ns'.map V.int))) so = some (.lst (ns'.map V.int)) := upd_same
    generalize L2.upd H2 so (.lst (ns'.map V.int)) = H3 at s3 h3 ⊢
    refine ⟨_, .inl (SqL.of h3), ?_⟩
    rw [List.length_map]
    have hw3 := s3 _ _ hw2
    refine ite2 (fun c => ?_) (fun c => ⟨s2.trans s3, ws, hw3, W, by omega⟩)
    refine ⟨.inl ⟨rfl, _, SqL.of hw3⟩, ?_⟩
    refine ⟨p, ns, _, rfl, (s2.trans s3).seq hS, hl, by omega, by omega, fun n n0 n1 => ?_⟩
    refine ⟨_, .inl (SqL.of h3), _, rfl, ?_⟩
    rw [List.length_map]
    have z0 := Int.emod_nonneg n (show (ns'.length : Int) ≠ 0 by omega)
    have z1 := Int.emod_lt_of_pos n (show 0 < (ns'.length : Int) by omega)
    generalize n % (ns'.length : Int) = k at z0 z1
    obtain ⟨v, hv, hv2⟩ := at_int (ns := ns') z0 z1
    have vsh := (hns v).mp (mem_at hv2)
    obtain ⟨l, hl3⟩ := Option.ne_none_iff_exists'.mp vsh
    obtain ⟨_, _, v0, v1, _⟩ := sh_mem rs G.gr _ _ _ hl3
    refine ⟨by omega, _, SqL.of h3, _, hv, _, hw3, by rw [List.length_map]; omega, (s2.trans s3).put hwl, ws ++ [v], by rw [upd_same, List.map_append]; rfl, W.app el ⟨fun e a b f1 f2 => ?_⟩ (fun y hy => ?_), by rw [List.length_append]; simp only [List.length_cons, List.length_nil]; omega⟩
    · cases e with
      | zero =>
        simp only [List.getElem?_cons_zero, List.getElem?_cons_succ, Option.some.injEq] at f1 f2
        subst f1 f2
        exact vsh
      | succ e => simp at f2
    · have : y = v := by simpa using hy
      subst this
      exact ⟨v0, v1⟩
  · rintro σ H2 ⟨s2, ws, x, y, hw2, W, lw, rfl⟩
    simp only [t__law_walk_0_eq, t__law_walk_1_eq, t__law_walk_2_eq, tForD, iDict, rSetOf, rLenS, rSortedD, tDGet, tComp_eq, rRep, capS, gSub, rSetL, rAppend, Option.bind_some, Option.bind_none, Option.join_some, Option.map_some, List.getElem?_cons_zero, List.getElem?_cons_succ, rCat, V.str.injEq, V.ty.injEq, tBM, tFor_eq, iRng1, tSeq, tNext, tAsg, gName, tCB, tCons, tNil, tVar, tC, tOp, tUn, tTest, tOr, tIfS, tRet, tDrop, tLst, tCall, rI, rI0, rU, rIxL, L2.start, truV_int, truV_bl, scal_int, scal_bl, List.map_cons, List.map_nil, List.length_cons, List.length_nil, List.replicate, List.cons_append, List.nil_append, List.append_nil, Option.some.injEq, exists_eq_left', exists_eq_left, exists_and_left, List.cons.injEq, V.int.injEq, V.ref.injEq, V.bl.injEq, and_true, true_and, List.set_cons_zero, List.set_cons_succ, Nat.reduceAdd, Nat.reduceSub, Int.reduceToNat, Int.reducePow, Int.reduceNeg, Int.reduceMul, Int.reduceAdd, Int.reduceSub, decide_eq_true_eq, Bool.not_eq_true', decide_eq_false_iff_not, exists_const, and_assoc, exists_eq, exists_eq', if_true, if_false, Bool.false_eq_true, Bool.true_eq_false, reduceCtorEq, not_true_eq_false, not_false_eq_true]
    refine while_W (m := 100) (fun n σ H' => Same H H' ∧ ∃ (l : Addr) (ws ds' : List Int) (x y : Option V), H' l = some (.lst (ws.map V.int)) ∧ WkP rs m ws ∧ ds'.Nodup ∧ (∀ x, x ∈ ds' → x ∈ ws) ∧ ws.length ≤ 12 + 60 * ds'.length ∧ n = 100 - ds'.length ∧ σ = [some (.ref p), some (.int st), some (.ref nl), some (.ref l), x, y]) ⟨s2, wl, ws, [], _, _, hw2, W, by simp, by simp, by omega, rfl, rfl⟩ ?_
    rintro n σ H3 ⟨s3, l, ws, ds', x, y, hl3, W, nd', sub', lw', rfl, rfl⟩
    have ldm : ∀ (dl : List Int), dl.Nodup → (∀ x ∈ dl, x ∈ ws) → (dl.length : Int) ≤ m := fun dl h1 h2 => by
      have := nodup_len dl (upto m) h1 fun x hx => mem_ints.mpr (W.inR x (h2 x hx))
      unfold upto at this
      rw [List.length_map, List.length_range] at this
      omega
    have l1 := ldm ds' nd' sub'
    have N3 := N.same s3
    simp only [t__law_walk_0_eq, t__law_walk_1_eq, t__law_walk_2_eq, tForD, iDict, rSetOf, rLenS, rSortedD, tDGet, tComp_eq, rRep, capS, gSub, rSetL, rAppend, Option.bind_some, Option.bind_none, Option.join_some, Option.map_some, List.getElem?_cons_zero, List.getElem?_cons_succ, rCat, V.str.injEq, V.ty.injEq, tBM, tFor_eq, iRng1, tSeq, tNext, tAsg, gName, tCB, tCons, tNil, tVar, tC, tOp, tUn, tTest, tOr, tIfS, tRet, tDrop, tLst, tCall, rI, rI0, rU, rIxL, L2.start, truV_int, truV_bl, scal_int, scal_bl, List.map_cons, List.map_nil, List.length_cons, List.length_nil, List.replicate, List.cons_append, List.nil_append, List.append_nil, Option.some.injEq, exists_eq_left', exists_eq_left, exists_and_left, List.cons.injEq, V.int.injEq, V.ref.injEq, V.bl.injEq, and_true, true_and, List.set_cons_zero, List.set_cons_succ, Nat.reduceAdd, Nat.reduceSub, Int.reduceToNat, Int.reducePow, Int.reduceNeg, Int.reduceMul, Int.reduceAdd, Int.reduceSub, decide_eq_true_eq, Bool.not_eq_true', decide_eq_false_iff_not, exists_const, and_assoc, exists_eq, exists_eq', if_true, if_false, Bool.false_eq_true, Bool.true_eq_false, reduceCtorEq, not_true_eq_false, not_false_eq_true]
    refine ⟨_, SqL.of hl3, by omega, fun se dl S hse nd hdl => ?_⟩
    have s4 := same_new hse (.set S dl.length)
    have h4 : (L2.upd H3 se (.set S dl.length)) se = some (.set S dl.length) := upd_same
    generalize L2.upd H3 se (.set S dl.length) = H4 at s4 h4 ⊢
    refine ⟨_, _, h4, _, .inl (SqL.of (s4 _ _ N3.hl)), ?_⟩
    rw [List.length_map]
    have l2 := ldm dl nd fun x hx => (hdl x).mp hx
    have l3 : ds'.length ≤ dl.length := nodup_len ds' dl nd' fun x hx => (hdl x).mpr (sub' x hx)
    refine ite2 (fun c => ?_) (fun c => ?_)
    · have pos : 0 < ws.length := (List.getElem?_eq_some_iff.mp W.first).1
      have el : ws[ws.length - 1]? = some ws[ws.length - 1] := List.getElem?_eq_getElem (by omega)
      generalize ws[ws.length - 1] = la at el
      have laR := W.inR la (mem_at el)
      have hout : ∃ x, 0 ≤ x ∧ x < m ∧ x ∉ ws := by
        refine Classical.byContradiction fun cx => ?_
        have := nodup_len (upto m) dl nodup_ints fun x hx => by
          obtain ⟨x0, x1⟩ := mem_ints.mp hx
          exact (hdl x).mpr (Classical.byContradiction fun z => cx ⟨x, x0, x1, z⟩)
        unfold upto at this
        rw [List.length_map, List.length_range] at this
        omega
      refine ⟨_, fun _ _ h => h, _, SqL.of (s4 _ _ hl3), _, at_last el pos, ?_⟩
      refine ⟨nl, l, ds, m, rs, la, ws, rfl, N3.same s4, G, s4 _ _ hl3, mem_at el, laR.1, laR.2, hout, fun r path H5 s5 hr5 Wy lp hnew hpR => ?_⟩
      obtain ⟨xn, xn1, xn2⟩ := hnew
      refine ⟨r, rfl, _, s5 _ _ (s4 _ _ hl3), _, hr5, by rw [List.length_map, List.length_map]; omega, fun p2 hp2 => ?_⟩
      refine ⟨_, ?_, ((s3.trans s4).trans s5).add hp2, p2, ws ++ path, by rw [upd_same, List.map_append], W.app el Wy hpR, xn :: dl, List.nodup_cons.mpr ⟨fun z => xn2 ((hdl xn).mp z), nd⟩, fun x hx => ?_, by rw [List.length_append, List.length_cons]; omega, rfl, _, _, rfl⟩
      · rw [List.length_cons]
        omega
      · rcases List.mem_cons.mp hx with rfl | h
        · exact List.mem_append_right _ xn1
        · exact List.mem_append_left _ ((hdl x).mp h)
    · refine q l ws H4 (s3.trans s4) (s4 _ _ hl3) ⟨W.first, W.ok, fun x x0 x1 => ?_, by omega⟩ (by omega)
      refine Classical.byContradiction fun cx => ?_
      have := nodup_len (x :: dl) (upto m) (List.nodup_cons.mpr ⟨fun z => cx ((hdl x).mp z), nd⟩) fun y hy => by
        rcases List.mem_cons.mp hy with rfl | hy
        · exact mem_ints.mpr ⟨x0, x1⟩
        · exact mem_ints.mpr (W.inR y ((hdl y).mp hy))
      unfold upto at this
      rw [List.length_cons, List.length_map, List.length_range] at this
      omega
theorem sc__law_walk : FnScope ["_law_script", "_law_start", "_law_near_here", "_law_walk_here", "_law_k", "_law_some"] ["_law_script", "_law_start", "_law_near_here"] (defScope s__law_walk) := ⟨rfl, rfl, rfl, by decide +kernel, rfl, by decide +kernel, by decide +kernel⟩
theorem ok__law_walk (T : Txt K mg a) : FnOk P w K mg base CX0 2 a.f__law_walk a.d__law_walk ["_law_script", "_law_start", "_law_near_here"] (spWalk K) := by
  have G__law_mixed := ok__law_mixed (P := P) (w := w) (base := base) T
  have G__law_way := ok__law_way (P := P) (w := w) (base := base) T
  refine T.F__law_walk.ok sc__law_walk (fun vs H Q E h => ?_) (fun cdv A outer s H vs Q E hr h => ?_)
  · obtain ⟨p, nl, ns, st, ds, m, rs, rfl, hS, hl, st0, st1, N, G, q⟩ := h
    rfl
  obtain ⟨p, nl, ns, st, ds, m, rs, rfl, hS, hl, st0, st1, N, G, q⟩ := h
  exact ⟨t__law_walk K, (pss_cons (ps_set (i := 3) sc__law_walk.nd rfl (Or.inl rfl) (pe_lst (pa_cons pe_int pa_nil)))
  (pss_cons (ps_for PassesOwn.never rfl (pi_range1 rfl T.z_range (pa_cons (pe_op op_mod (pe_call G__law_mixed (hr.mono (by decide)) rfl T.m__law_mixed T.F__law_mixed.kp T.b__law_mixed .nil pass0 (pa_cons (pv 0) (pa_cons (pv 1) pa_nil))) pe_int) pa_nil)) (pg_name (i := 4) sc__law_walk.nd rfl (Or.inl rfl))
  (pss_cons (ps_set (i := 5) sc__law_walk.nd rfl (Or.inl rfl) (pe_callB (call_sortedD rfl) rfl T.z_sorted PyProof.Rows.boot_sorted (pa_cons (pe_ix ix_list (pv 2) (pe_ix ix_list (pv 3) (pe_un un_neg pe_int) (fun _ _ => rfl)) (fun _ _ => rfl)) pa_nil)))
  (pss_one (ps_if (pt_cmpR op_gt (pe_callB call_len_seq rfl T.z_len PySem.boot_len (pa_cons (pv 5) pa_nil)) pe_int (nomark _)) (pss_one (ps_expr (pe_bm PySem.F.plainAttrs_list PySem.F.slot_list_append PySem.F.type_list_append mt_append (pv 3) (pa_cons (pe_ix ix_list (pv 5) (pe_op op_mod (pe_call G__law_mixed (hr.mono (by decide)) rfl T.m__law_mixed T.F__law_mixed.kp T.b__law_mixed .nil pass0 (pa_cons (pv 0) (pa_cons (pe_op op_add (pe_op op_add (pv 1) pe_int) (pv 4)) pa_nil))) (pe_callB call_len_seq rfl T.z_len PySem.boot_len (pa_cons (pv 5) pa_nil))) (fun _ _ => rfl)) pa_nil)))) pss_nil))))
  (pss_cons (ps_while PassesOwn.never (pt_cmpR op_lt (pe_callB call_lenS rfl T.z_len PySem.boot_len (pa_cons (pe_callTy (call_setL rfl) rfl T.z_set PyProof.Rows.boot_set (pa_cons (pv 3) pa_nil)) pa_nil)) (pe_callB call_len_seq rfl T.z_len PySem.boot_len (pa_cons (pv 2) pa_nil)) (nomark _)) (pss_one (ps_set (i := 3) sc__law_walk.nd rfl (Or.inl rfl) (pe_op op_cat (pv 3) (pe_call G__law_way (hr.mono (by decide)) rfl T.m__law_way T.F__law_way.kp T.b__law_way .nil pass0 (pa_cons (pv 2) (pa_cons (pe_ix ix_list (pv 3) (pe_un un_neg pe_int) (fun _ _ => rfl)) (pa_cons (pv 3) pa_nil))))))))
  (pss_one (ps_ret (pv 3)))))),
    rd__law_walk hS hl st0 st1 N G q⟩

/-! ### the shortest roads, told otherwise -/
theorem rev_ind {α : Type} {P : List α → Prop} (h0 : P []) (h1 : ∀ l x, P l → P (l ++ [x])) (l : List α) : P l := by
  have z : ∀ r : List α, P r.reverse := by
    intro r
    induction r with
    | nil => exact h0
    | cons x r ih => rw [List.reverse_cons]; exact h1 _ _ ih
  have := z l.reverse
  rwa [List.reverse_reverse] at this
def Jn (r : Road) (x y : Int) : Prop := (r.1 = x ∧ r.2.1 = y) ∨ (r.1 = y ∧ r.2.1 = x)
instance (r : Road) (x y : Int) : Decidable (Jn r x y) := by unfold Jn; infer_instance
theorem sh_put (rs : List Road) (r : Road) : sh (rs ++ [r]) = shs (sh rs) r := by
  unfold sh
  rw [List.foldl_append]
  rfl
theorem shs_at (f : Int → Int → Option Int) (r : Road) (x y : Int) : shs f r x y = if Jn r x y then some (min ((f r.1 r.2.1).getD r.2.2) r.2.2) else f x y := by
  unfold shs
  by_cases c1 : x = r.2.1 ∧ y = r.1
  · rw [if_pos c1, if_pos (.inr ⟨c1.2.symm, c1.1.symm⟩)]
  · rw [if_neg c1]
    by_cases c2 : x = r.1 ∧ y = r.2.1
    · rw [if_pos c2, if_pos (.inl ⟨c2.1.symm, c2.2.symm⟩)]
    · rw [if_neg c2, if_neg]
      rintro (z | z)
      · exact c2 ⟨z.1.symm, z.2.symm⟩
      · exact c1 ⟨z.2.symm, z.1.symm⟩
theorem Jn.shE {r : Road} {x y : Int} (h : Jn r x y) (rs : List Road) : sh rs r.1 r.2.1 = sh rs x y := by
  rcases h with ⟨rfl, rfl⟩ | ⟨rfl, rfl⟩
  · rfl
  · exact sh_sym _ _ _
theorem sh_spec (rs : List Road) : ∀ x y : Int, (∀ l, sh rs x y = some l → (∃ r ∈ rs, Jn r x y ∧ r.2.2 = l) ∧ ∀ r ∈ rs, Jn r x y → l ≤ r.2.2) ∧ (sh rs x y = none → ∀ r ∈ rs, ¬ Jn r x y) := by
  induction rs using rev_ind with
  | h0 => exact fun x y => ⟨fun l h => (nomatch h : False).elim, fun _ r h => (List.not_mem_nil h).elim⟩
  | h1 rs r ih =>
    intro x y
    obtain ⟨h1, h2⟩ := ih x y
    rw [sh_put, shs_at]
    by_cases c : Jn r x y
    · rw [if_pos c, c.shE]
      refine ⟨fun l e => ?_, fun e => nomatch e⟩
      injection e with e
      cases q : sh rs x y with
      | none =>
        rw [q, Option.getD_none] at e
        refine ⟨⟨r, by simp, c, by omega⟩, fun r' h' j' => ?_⟩
        rcases List.mem_append.mp h' with z | z
        · exact absurd j' (h2 q r' z)
        · have : r' = r := by simpa using z
          subst this
          omega
      | some v =>
        rw [q, Option.getD_some] at e
        obtain ⟨⟨r1, m1, j1, l1⟩, k1⟩ := h1 v q
        refine ⟨?_, fun r' h' j' => ?_⟩
        · by_cases cv : v ≤ r.2.2
          · exact ⟨r1, by simp [m1], j1, by omega⟩
          · exact ⟨r, by simp, c, by omega⟩
        · rcases List.mem_append.mp h' with z | z
          · have := k1 r' z j'
            omega
          · have : r' = r := by simpa using z
            subst this
            omega
    · rw [if_neg c]
      refine ⟨fun l e => ?_, fun e r' h' => ?_⟩
      · obtain ⟨⟨r1, m1, j1, l1⟩, k1⟩ := h1 l e
        refine ⟨⟨r1, by simp [m1], j1, l1⟩, fun r' h' j' => ?_⟩
        rcases List.mem_append.mp h' with z | z
        · exact k1 r' z j'
        · have : r' = r := by simpa using z
          subst this
          exact absurd j' c
      · rcases List.mem_append.mp h' with z | z
        · exact h2 e r' z
        · have : r' = r := by simpa using z
          subst this
          exact c
/-- each road of the one is alongside one of the other that is no longer -/
def Dom (rs rs' : List Road) : Prop := ∀ r ∈ rs, ∃ r' ∈ rs', (∀ x y, Jn r x y → Jn r' x y) ∧ r'.2.2 ≤ r.2.2
theorem sh_dom {rs rs' : List Road} (h1 : Dom rs rs') (h2 : Dom rs' rs) : sh rs = sh rs' := by
  have le : ∀ {rs rs' : List Road}, Dom rs rs' → ∀ x y l, sh rs x y = some l → ∃ l', sh rs' x y = some l' ∧ l' ≤ l := by
    intro rs rs' h x y l e
    obtain ⟨⟨r, m, j, el⟩, _⟩ := (sh_spec rs x y).1 l e
    obtain ⟨r', m', j', le⟩ := h r m
    cases q : sh rs' x y with
    | none => exact absurd (j' x y j) ((sh_spec rs' x y).2 q r' m')
    | some l' => exact ⟨l', rfl, by have := ((sh_spec rs' x y).1 l' q).2 r' m' (j' x y j); omega⟩
  funext x y
  cases q : sh rs x y with
  | none =>
    cases q' : sh rs' x y with
    | none => rfl
    | some l' =>
      obtain ⟨l, e, _⟩ := le h2 x y l' q'
      rw [q] at e
      cases e
  | some l =>
    obtain ⟨l', e, k⟩ := le h1 x y l q
    obtain ⟨l2, e2, k2⟩ := le h2 x y l' e
    rw [q] at e2
    cases e2
    rw [e]
    congr 1
    omega
theorem Dom.self {rs rs' : List Road} (h : ∀ r ∈ rs, r ∈ rs') : Dom rs rs' := fun r m => ⟨r, h r m, fun _ _ j => j, Int.le_refl _⟩
abbrev trn (r : Road) : Road := (r.2.1, r.1, r.2.2)
theorem Jn.trn {r : Road} {x y : Int} (h : Jn r x y) : Jn (trn r) x y := h.elim (fun z => .inr ⟨z.2, z.1⟩) fun z => .inl ⟨z.2, z.1⟩
theorem sh_trn (rs : List Road) : sh (rs.reverse.map trn) = sh rs := by
  refine sh_dom (fun r h => ?_) fun r h => ?_
  · obtain ⟨r0, m, rfl⟩ := List.mem_map.mp h
    exact ⟨r0, List.mem_reverse.mp m, fun x y j => j.trn, Int.le_refl _⟩
  · exact ⟨trn r, List.mem_map.mpr ⟨r, List.mem_reverse.mpr h, rfl⟩, fun x y j => j.trn, Int.le_refl _⟩
theorem GR.trn {m : Int} {r : Road} (h : GR m r) : GR m (trn r) := ⟨h.2.2.1, h.2.2.2.1, h.1, h.2.1, h.2.2.2.2.1.symm, h.2.2.2.2.2⟩
theorem GW.trn {m : Int} {rs : List Road} (G : GW m rs) : GW m (rs.reverse.map trn) := by
  refine ⟨G.m1, G.m60, by rw [List.length_map, List.length_reverse]; exact G.l120, fun r h => ?_, fun S s0 sc => G.conn S s0 fun r h c => ?_⟩
  · obtain ⟨r0, m0, rfl⟩ := List.mem_map.mp h
    exact (G.gr r0 (List.mem_reverse.mp m0)).trn
  · exact (sc (My.trn r) (List.mem_map.mpr ⟨r, List.mem_reverse.mpr h, rfl⟩) c.symm).symm
theorem GW.more {m : Int} {rs rs' : List Road} (G : GW m rs) (h : ∀ r ∈ rs, r ∈ rs') (gr : ∀ r ∈ rs', GR m r) (l : rs'.length ≤ 120) : GW m rs' :=
  ⟨G.m1, G.m60, l, gr, fun S s0 sc => G.conn S s0 fun r hr c => sc r (h r hr) c⟩
abbrev dbl (r : Road) : Road := (r.1, r.2.1, 2 * r.2.2)
theorem sh_dbl (rs : List Road) : sh (rs.map dbl) = fun x y => (sh rs x y).map (2 * ·) := by
  induction rs using rev_ind with
  | h0 => rfl
  | h1 rs r ih =>
    rw [List.map_append, List.map_cons, List.map_nil, sh_put, sh_put, ih]
    funext x y
    rw [shs_at, shs_at]
    by_cases c : Jn r x y
    · rw [if_pos (show Jn (dbl r) x y from c), if_pos c]
      simp only [Option.map_some]
      congr 1
      cases q : sh rs r.1 r.2.1 with
      | none => simp only [Option.map_none, Option.getD_none]; omega
      | some v => simp only [Option.map_some, Option.getD_some]; omega
    · rw [if_neg (show ¬ Jn (dbl r) x y from c), if_neg c]
theorem GW.dbl {m : Int} {rs : List Road} (G : GW m rs) (h : ∀ r ∈ rs, r.2.2 ≤ 500000) : GW m (rs.map dbl) := by
  refine ⟨G.m1, G.m60, by rw [List.length_map]; exact G.l120, fun r hr => ?_, fun S s0 sc => G.conn S s0 fun r hr c => sc (My.dbl r) (List.mem_map.mpr ⟨r, hr, rfl⟩) c⟩
  obtain ⟨r0, m0, rfl⟩ := List.mem_map.mp hr
  obtain ⟨g1, g2, g3, g4, g5, g6, g7⟩ := G.gr r0 m0
  have := h r0 m0
  exact ⟨g1, g2, g3, g4, g5, by show 1 ≤ 2 * r0.2.2; omega, by show 2 * r0.2.2 ≤ 1000000; omega⟩
/-! ### twice as much -/
def dC (c : Ct) : Ct := fun x => (c x).map (2 * ·)
def d2 (s : Int × Ct) : Int × Ct := (2 * s.1, dC s.2)
theorem dC_none {c : Ct} {x : Int} : dC c x = none ↔ c x = none := Option.map_eq_none_iff
theorem stC_dbl (f : Int → Int → Option Int) (s : Int × Ct) (a b : Int) : stC (fun x y => (f x y).map (2 * ·)) (d2 s) a b = d2 (stC f s a b) := by
  have e : ((f a b).map (2 * ·)).getD 0 = 2 * (f a b).getD 0 := by
    cases f a b with
    | none => rfl
    | some v => rfl
  unfold stC d2
  simp only [e]
  refine Prod.ext (by simp only; omega) ?_
  funext x
  simp only
  by_cases c : x = b ∧ s.2 b = none
  · rw [if_pos ⟨c.1, dC_none.mpr c.2⟩]
    unfold dC
    simp only
    rw [if_pos c, Option.map_some]
    congr 1
    omega
  · rw [if_neg fun z => c ⟨z.1, dC_none.mp z.2⟩]
    unfold dC
    simp only
    rw [if_neg c]
theorem d2_zero : d2 (0, ct0) = (0, ct0) := by
  unfold d2 dC ct0
  refine Prod.ext rfl ?_
  funext x
  simp only
  by_cases c : x = 0
  · rw [if_pos c]; rfl
  · rw [if_neg c]; rfl
theorem spC_dbl (f : Int → Int → Option Int) (ps : List (Int × Int)) : spC (fun x y => (f x y).map (2 * ·)) ps = d2 (spC f ps) := by
  have z : ∀ (ps : List (Int × Int)) (s : Int × Ct), ps.foldl (fun s p => stC (fun x y => (f x y).map (2 * ·)) s p.1 p.2) (d2 s) = d2 (ps.foldl (fun s p => stC f s p.1 p.2) s) := by
    intro ps
    induction ps with
    | nil => intro s; rfl
    | cons p ps ih =>
      intro s
      rw [List.foldl_cons, List.foldl_cons, stC_dbl, ih]
  have := z ps (0, ct0)
  rw [d2_zero] at this
  exact this
theorem wkC_dbl (f : Int → Int → Option Int) (ws : List Int) : ∀ n, wkC (fun x y => (f x y).map (2 * ·)) ws n = d2 (wkC f ws n)
  | 0 => d2_zero.symm
  | n + 1 => by rw [wkC_succ, wkC_succ, wkC_dbl f ws n, stC_dbl]
theorem costL_dbl (m : Int) (c : Ct) : costL m (dC c) = (costL m c).map (2 * ·) := by
  unfold costL
  rw [List.map_map]
  refine List.map_congr_left fun k _ => ?_
  unfold dC
  simp only [Function.comp]
  cases c (k : Int) with
  | none => rfl
  | some v => rfl
theorem Wlk.dbl {f : Int → Int → Option Int} {m : Int} {ws : List Int} (h : Wlk f m ws) : Wlk (fun x y => (f x y).map (2 * ·)) m ws :=
  ⟨h.first, fun i a b e1 e2 z => h.ok i a b e1 e2 (Option.map_eq_none_iff.mp z), h.all, h.len⟩
theorem Spr.dbl {f : Int → Int → Option Int} {m : Int} {ps : List (Int × Int)} (h : Spr f m ps) : Spr (fun x y => (f x y).map (2 * ·)) m ps := by
  refine ⟨fun i p e => ?_, fun x x0 x1 => ?_, h.len⟩
  · obtain ⟨a, b, c⟩ := h.ok i p e
    rw [spC_dbl]
    exact ⟨fun z => a (dC_none.mp z), dC_none.mpr b, fun z => c (Option.map_eq_none_iff.mp z)⟩
  · rw [spC_dbl]
    exact fun z => h.all x x0 x1 (dC_none.mp z)
/-! ### walks and what they pay -/
inductive Wk (f : Int → Int → Option Int) : Nat → Int → Int → Prop where
  | zero : Wk f 0 0 0
  | step {k : Nat} {a b c l : Int} (h : Wk f k a c) (e : f a b = some l) : Wk f (k + 1) b (c + l)
/-- the places of a walk, the last one first -/
inductive Pv (f : Int → Int → Option Int) : List Int → Int → Prop where
  | zero : Pv f [0] 0
  | step {a b c l : Int} {vs : List Int} (h : Pv f (a :: vs) c) (e : f a b = some l) : Pv f (b :: a :: vs) (c + l)
section
variable {f : Int → Int → Option Int}
theorem Pv.wk {vs : List Int} {c : Int} (h : Pv f vs c) : ∀ x r, vs = x :: r → Wk f r.length x c := by
  induction h with
  | zero => rintro x r e; cases e; exact .zero
  | step h e ih => rintro x r e'; cases e'; exact .step (ih _ _ rfl) e
theorem Pv.cut (pos : ∀ x y l, f x y = some l → 0 ≤ l) {vs : List Int} {c : Int} (h : Pv f vs c) : ∀ b ∈ vs, ∃ r c', Pv f (b :: r) c' ∧ (b :: r) <:+ vs ∧ c' ≤ c := by
  induction h with
  | zero =>
    intro b hb
    have : b = 0 := by simpa using hb
    subst this
    exact ⟨[], 0, .zero, List.suffix_refl _, Int.le_refl _⟩
  | @step a b' c l vs h e ih =>
    intro b hb
    by_cases cb : b = b'
    · subst cb
      exact ⟨_, _, .step h e, List.suffix_refl _, Int.le_refl _⟩
    · have hb2 : b ∈ a :: vs := by
        rcases List.mem_cons.mp hb with z | z
        · exact absurd z cb
        · exact z
      obtain ⟨r, c', p, s, le⟩ := ih b hb2
      have := pos _ _ _ e
      exact ⟨r, c', p, s.trans (List.suffix_cons _ _), by omega⟩
theorem Wk.plain (pos : ∀ x y l, f x y = some l → 0 ≤ l) {k : Nat} {x c : Int} (h : Wk f k x c) : ∃ r c', Pv f (x :: r) c' ∧ (x :: r).Nodup ∧ c' ≤ c := by
  induction h with
  | zero => exact ⟨[], 0, .zero, by simp, Int.le_refl _⟩
  | @step k a b c l h e ih =>
    obtain ⟨r, c', p, nd, le⟩ := ih
    have := pos _ _ _ e
    by_cases cb : b ∈ a :: r
    · obtain ⟨r', c2, p', s, le'⟩ := p.cut pos b cb
      exact ⟨r', c2, p', s.sublist.nodup nd, by omega⟩
    · exact ⟨a :: r, _, .step p e, List.nodup_cons.mpr ⟨cb, nd⟩, by omega⟩
theorem Pv.inR {m : Int} (m1 : 1 ≤ m) (hr : ∀ x y l, f x y = some l → 0 ≤ y ∧ y < m) {vs : List Int} {c : Int} (h : Pv f vs c) : ∀ x ∈ vs, 0 ≤ x ∧ x < m := by
  induction h with
  | zero =>
    intro x hx
    have : x = 0 := by simpa using hx
    subst this
    exact ⟨by decide, by omega⟩
  | step h e ih =>
    intro x hx
    rcases List.mem_cons.mp hx with rfl | z
    · exact hr _ _ _ e
    · exact ih x z
/-- as few steps as places less one do -/
theorem Wk.few {m : Int} (m1 : 1 ≤ m) (hr : ∀ x y l, f x y = some l → (0 ≤ y ∧ y < m) ∧ 0 ≤ l) {k : Nat} {x c : Int} (h : Wk f k x c) : ∃ (j : Nat) (c' : Int), (j : Int) < m ∧ Wk f j x c' ∧ c' ≤ c := by
  obtain ⟨r, c', p, nd, le⟩ := h.plain fun x y l e => (hr x y l e).2
  refine ⟨r.length, c', ?_, p.wk _ _ rfl, le⟩
  have := nodup_len (x :: r) (upto m) nd fun y hy => mem_ints.mpr (p.inR m1 (fun x y l e => (hr x y l e).1) y hy)
  unfold upto at this
  rw [List.length_cons, List.length_map, List.length_range] at this
  omega
/-- what a walk pays for a place is what some walk to it pays -/
theorem wkC_wk {ws : List Int} (h0 : ws[0]? = some 0) (ok : ∀ (i : Nat) a b, ws[i]? = some a → ws[i + 1]? = some b → f a b ≠ none) : ∀ n, n < ws.length → Wk f n (ws.getD n 0) (wkC f ws n).1 ∧ ∀ x v, (wkC f ws n).2 x = some v → ∃ k, Wk f k x v
  | 0, hn => by
    have e : ws.getD 0 0 = 0 := by rw [List.getD_eq_getElem?_getD, h0]; rfl
    rw [e]
    refine ⟨.zero, fun x v h => ?_⟩
    change ct0 x = some v at h
    unfold ct0 at h
    split at h
    · rename_i c
      cases h
      subst c
      exact ⟨0, .zero⟩
    · cases h
  | n + 1, hn => by
    obtain ⟨h1, h2⟩ := wkC_wk h0 ok n (by omega)
    have e1 : ws[n]? = some (ws.getD n 0) := by rw [List.getD_eq_getElem?_getD, List.getElem?_eq_getElem (by omega)]; rfl
    have e2 : ws[n + 1]? = some (ws.getD (n + 1) 0) := by rw [List.getD_eq_getElem?_getD, List.getElem?_eq_getElem hn]; rfl
    obtain ⟨l, hl⟩ := Option.ne_none_iff_exists'.mp (ok n _ _ e1 e2)
    have s1 : Wk f (n + 1) (ws.getD (n + 1) 0) ((wkC f ws n).1 + l) := .step h1 hl
    rw [wkC_succ]
    unfold stC
    simp only
    rw [hl, Option.getD_some]
    refine ⟨s1, fun x v h => ?_⟩
    split at h
    · rename_i c
      cases h
      rw [c.1]
      exact ⟨_, s1⟩
    · exact h2 x v h
/-- what is known of a spread's costs -/
structure SpI (f : Int → Int → Option Int) (s : Int × Ct) : Prop where
  le : ∀ x v, s.2 x = some v → v ≤ s.1
  wk : ∀ x v, s.2 x = some v → ∃ k c, Wk f k x c ∧ c ≤ v
theorem SpI.put (pos : ∀ x y l, f x y = some l → 0 ≤ l) {s : Int × Ct} {a b : Int} (h : SpI f s) (ha : s.2 a ≠ none) (hb : s.2 b = none) (hf : f a b ≠ none) : SpI f (stC f s a b) ∧ ∃ va vb l, (stC f s a b).2 a = some va ∧ (stC f s a b).2 b = some vb ∧ f a b = some l ∧ va + l ≤ vb := by
  obtain ⟨l, hl⟩ := Option.ne_none_iff_exists'.mp hf
  obtain ⟨va, hva⟩ := Option.ne_none_iff_exists'.mp ha
  have pl := pos _ _ _ hl
  have lv := h.le a va hva
  have nab : a ≠ b := fun z => by rw [z, hb] at hva; cases hva
  have e2 : ∀ x, (stC f s a b).2 x = if x = b then some (s.1 + l) else s.2 x := fun x => by
    unfold stC
    simp only
    rw [hl, Option.getD_some]
    by_cases c : x = b
    · rw [if_pos ⟨c, hb⟩, if_pos c]
    · rw [if_neg fun z => c z.1, if_neg c]
  have e1 : (stC f s a b).1 = s.1 + l := by
    unfold stC
    simp only
    rw [hl, Option.getD_some]
  refine ⟨⟨fun x v hv => ?_, fun x v hv => ?_⟩, va, s.1 + l, l, by rw [e2, if_neg nab]; exact hva, by rw [e2, if_pos rfl], hl, by omega⟩
  · rw [e2] at hv
    rw [e1]
    split at hv
    · cases hv
      exact Int.le_refl _
    · have := h.le x v hv
      omega
  · rw [e2] at hv
    split at hv
    · rename_i c
      cases hv
      subst c
      obtain ⟨k, c, w1, w2⟩ := h.wk a va hva
      exact ⟨k + 1, c + l, .step w1 hl, by omega⟩
    · exact h.wk x v hv
theorem Spr.known (pos : ∀ x y l, f x y = some l → 0 ≤ l) {m : Int} {ps : List (Int × Int)} (h : Spr f m ps) : SpI f (spC f ps) ∧ ∀ p ∈ ps, ∃ va vb l, (spC f ps).2 p.1 = some va ∧ (spC f ps).2 p.2 = some vb ∧ f p.1 p.2 = some l ∧ va + l ≤ vb := by
  have z : ∀ i : Nat, i ≤ ps.length → SpI f (spC f (ps.take i)) ∧ ∀ p ∈ ps.take i, ∃ va vb l, (spC f (ps.take i)).2 p.1 = some va ∧ (spC f (ps.take i)).2 p.2 = some vb ∧ f p.1 p.2 = some l ∧ va + l ≤ vb := by
    intro i
    induction i with
    | zero =>
      intro _
      refine ⟨⟨fun x v hv => ?_, fun x v hv => ?_⟩, fun p hp => by simp at hp⟩
      · change ct0 x = some v at hv
        unfold ct0 at hv
        split at hv
        · cases hv; exact Int.le_refl _
        · cases hv
      · change ct0 x = some v at hv
        unfold ct0 at hv
        split at hv
        · rename_i c
          cases hv
          subst c
          exact ⟨0, 0, .zero, Int.le_refl _⟩
        · cases hv
    | succ i ih =>
      intro hi
      obtain ⟨h1, h2⟩ := ih (by omega)
      have e : ps[i]? = some ps[i] := List.getElem?_eq_getElem (by omega)
      obtain ⟨o1, o2, o3⟩ := h.ok i _ e
      obtain ⟨k1, k2⟩ := h1.put pos o1 o2 o3
      rw [spC_take e]
      refine ⟨k1, fun p hp => ?_⟩
      rw [List.take_add_one, e] at hp
      rcases List.mem_append.mp hp with w | w
      · obtain ⟨va, vb, l, a1, a2, a3, a4⟩ := h2 p w
        exact ⟨va, vb, l, by rw [stC_val (by rw [a1]; exact fun z => nomatch z)]; exact a1, by rw [stC_val (by rw [a2]; exact fun z => nomatch z)]; exact a2, a3, a4⟩
      · have : p = ps[i] := by simpa using w
        subst this
        exact k2
  have := z ps.length (Nat.le_refl _)
  rw [List.take_length] at this
  exact this
theorem getD_app {α : Type} {l r : List α} {n : Nat} {d : α} (h : n < l.length) : (l ++ r).getD n d = l.getD n d := by
  rw [List.getD_eq_getElem?_getD, List.getD_eq_getElem?_getD, List.getElem?_append_left h]
/-- a walk that goes on pays the same -/
theorem wkC_on {m : Int} {ws ext : List Int} (W : Wlk f m ws) (hr : ∀ y ∈ ext, 0 ≤ y ∧ y < m) : (wkC f (ws ++ ext) ((ws ++ ext).length - 1)).2 = (wkC f ws (ws.length - 1)).2 := by
  have wpos : 0 < ws.length := (List.getElem?_eq_some_iff.mp W.first).1
  have a1 : ∀ n, n < ws.length → wkC f (ws ++ ext) n = wkC f ws n := by
    intro n
    induction n with
    | zero => intro _; rfl
    | succ n ih =>
      intro hn
      rw [wkC_succ, wkC_succ, ih (by omega), getD_app (by omega), getD_app hn]
  have all : ∀ x, 0 ≤ x → x < m → (wkC f ws (ws.length - 1)).2 x ≠ none := fun x x0 x1 => by
    obtain ⟨j, hj⟩ := List.getElem?_of_mem (W.all x x0 x1)
    have lj := (List.getElem?_eq_some_iff.mp hj).1
    exact (wkC_dom W.first _ (by omega) x).mpr ⟨j, by omega, hj⟩
  have a2 : ∀ j, j ≤ ext.length → (wkC f (ws ++ ext) (ws.length - 1 + j)).2 = (wkC f ws (ws.length - 1)).2 := by
    intro j
    induction j with
    | zero => intro _; rw [Nat.add_zero, a1 _ (by omega)]
    | succ j ih =>
      intro hj
      have e : (ws ++ ext).getD (ws.length - 1 + j + 1) 0 ∈ ext := by
        rw [List.getD_eq_getElem?_getD, List.getElem?_append_right (by omega), List.getElem?_eq_getElem (by omega), Option.getD_some]
        exact List.getElem_mem _
      have := hr _ e
      rw [← Nat.add_assoc, wkC_succ, stC_keep, ih (by omega)]
      rw [ih (by omega)]
      exact all _ this.1 this.2
  have := a2 ext.length (Nat.le_refl _)
  rw [show (ws ++ ext).length - 1 = ws.length - 1 + ext.length by rw [List.length_append]; omega]
  exact this
end
theorem ix_nat {n j : Nat} (h : j < n) : ixN n (j : Int) = some j := by
  unfold ixN
  rw [if_pos (Int.natCast_nonneg j), if_pos (by omega), Int.toNat_natCast]
def oV : Option Int → V
  | none => .non
  | some v => .int v
def gt (ls : List (Option Int)) (x : Int) : Option Int := ls.getD x.toNat none
/-- nothing has become more -/
def Lq (ls ls' : List (Option Int)) : Prop := ls'.length = ls.length ∧ ∀ x v, gt ls x = some v → ∃ v', gt ls' x = some v' ∧ v' ≤ v
theorem Lq.refl (ls : List (Option Int)) : Lq ls ls := ⟨rfl, fun _ v h => ⟨v, h, Int.le_refl _⟩⟩
theorem Lq.trans {a b c : List (Option Int)} (h : Lq a b) (k : Lq b c) : Lq a c := ⟨k.1.trans h.1, fun x v e => by
  obtain ⟨v1, e1, l1⟩ := h.2 x v e
  obtain ⟨v2, e2, l2⟩ := k.2 x v1 e1
  exact ⟨v2, e2, by omega⟩⟩
theorem gt_set {ls : List (Option Int)} {b x : Int} {w : Option Int} (b1 : b.toNat < ls.length) : gt (ls.set b.toNat w) x = if x.toNat = b.toNat then w else gt ls x := by
  unfold gt
  rw [List.getD_eq_getElem?_getD, List.getD_eq_getElem?_getD]
  by_cases c : x.toNat = b.toNat
  · rw [if_pos c, c, List.getElem?_set_self b1]
    rfl
  · rw [if_neg c, List.getElem?_set_ne fun z => c z.symm]
theorem Lq.set {ls : List (Option Int)} {b w : Int} (b1 : b.toNat < ls.length) (h : ∀ u, gt ls b = some u → w ≤ u) : Lq ls (ls.set b.toNat (some w)) := by
  refine ⟨List.length_set, fun x v e => ?_⟩
  rw [gt_set b1]
  by_cases c : x.toNat = b.toNat
  · rw [if_pos c]
    exact ⟨w, rfl, h v (by unfold gt at e ⊢; rw [← c]; exact e)⟩
  · rw [if_neg c]
    exact ⟨v, e, Int.le_refl _⟩
/-- the roads by D have been looked at in this turn -/
def Rx (rs : List Road) (ls0 ls : List (Option Int)) (D : Int → Int → Prop) : Prop := Lq ls0 ls ∧ ∀ a b l, D a b → sh rs a b = some l → ∀ v, gt ls0 a = some v → ∃ v', gt ls b = some v' ∧ v' ≤ v + l
theorem Rx.next {rs : List Road} {ls0 ls ls' : List (Option Int)} {D D' : Int → Int → Prop} (h : Rx rs ls0 ls D) (q : Lq ls ls') (hd : ∀ a b, D' a b → D a b ∨ ∀ l, sh rs a b = some l → ∀ v, gt ls a = some v → ∃ v', gt ls' b = some v' ∧ v' ≤ v + l) : Rx rs ls0 ls' D' := by
  refine ⟨h.1.trans q, fun a b l d e v hv => ?_⟩
  rcases hd a b d with d0 | d1
  · obtain ⟨v1, e1, l1⟩ := h.2 a b l d0 e v hv
    obtain ⟨v2, e2, l2⟩ := q.2 b v1 e1
    exact ⟨v2, e2, by omega⟩
  · obtain ⟨v1, e1, l1⟩ := h.1.2 a v hv
    obtain ⟨v2, e2, l2⟩ := d1 l e v1 e1
    exact ⟨v2, e2, by omega⟩
/-- no walk of at most k steps pays less -/
def Low (rs : List Road) (ls : List (Option Int)) (k : Nat) : Prop := ∀ j, j ≤ k → ∀ x c, Wk (sh rs) j x c → ∃ v, gt ls x = some v ∧ v ≤ c
theorem Low.turn {rs : List Road} {ls0 ls : List (Option Int)} {k : Nat} {D : Int → Int → Prop} (h : Low rs ls0 k) (r : Rx rs ls0 ls D) (hd : ∀ a b, sh rs a b ≠ none → D a b) : Low rs ls (k + 1) := by
  intro j hj x c w'
  cases w' with
  | zero =>
    obtain ⟨v, e, l⟩ := h 0 (Nat.zero_le _) 0 0 .zero
    obtain ⟨v', e', l'⟩ := r.1.2 _ _ e
    exact ⟨v', e', by omega⟩
  | @step j a _ c l w' e =>
    obtain ⟨v, e1, l1⟩ := h j (by omega) a c w'
    obtain ⟨v', e', l'⟩ := r.2 a x l (hd a x (by rw [e]; exact fun z => nomatch z)) e v e1
    exact ⟨v', e', by omega⟩
theorem oV_at {ls : List (Option Int)} {x : Int} (x0 : 0 ≤ x) (x1 : x < (ls.length : Int)) : atI (ls.map oV) x = some (oV (gt ls x)) := by
  obtain ⟨k, rfl⟩ : ∃ k : Nat, x = k := ⟨x.toNat, by omega⟩
  refine atI_nat ?_
  unfold gt
  rw [List.getElem?_map, List.getD_eq_getElem?_getD, Int.toNat_natCast, List.getElem?_eq_getElem (by omega)]
  rfl
def spFar : Sp := fun vs H Q _ => ∃ (nl : Addr) (ds : List Addr) (m : Int) (rs : List Road), vs = [.ref nl] ∧ NearH H nl ds m rs ∧ GW m rs ∧ ∀ (fl : Addr) (ls : List (Option Int)) (H' : Hp), Same H H' → H' fl = some (.lst (ls.map oV)) → (ls.length : Int) = m → (∀ k x c, Wk (sh rs) k x c → ∃ v, gt ls x = some v ∧ v ≤ c) → Q (.ref fl) H'
def t__law_far_0 (K : PySem.W.Frag) : TS :=
  (tIfS (tTest (tOp (fun x y H Q => y = .non ∧ Q (.bl (!decide (x = .non))) H) (tOp (rIxL K) (tVar 1) (tVar 3)) (tC .non))) (tSeq (tAsg (tOp (rI0 fun i j => .int (i + j)) (tOp (rIxL K) (tVar 1) (tVar 3)) (tDGet (tOp (rIxL K) (tVar 0) (tVar 3)) (tVar 4))) (gName 5))
  (tIfS (tOr (tTest (tOp (fun x y H Q => y = .non ∧ Q (.bl (decide (x = .non))) H) (tOp (rIxL K) (tVar 1) (tVar 4)) (tC .non))) (tTest (tOp (rI0 fun i j => .bl (decide (i < j))) (tVar 5) (tOp (rIxL K) (tVar 1) (tVar 4))))) (tAsg (tVar 5) (gSub (tVar 1) (tVar 4) rSetL)) tNext)) tNext)
theorem t__law_far_0_eq (K : PySem.W.Frag) (D : Ends) (σ : St) (H : Hp) : t__law_far_0 K D σ H = (tIfS (tTest (tOp (fun x y H Q => y = .non ∧ Q (.bl (!decide (x = .non))) H) (tOp (rIxL K) (tVar 1) (tVar 3)) (tC .non))) (tSeq (tAsg (tOp (rI0 fun i j => .int (i + j)) (tOp (rIxL K) (tVar 1) (tVar 3)) (tDGet (tOp (rIxL K) (tVar 0) (tVar 3)) (tVar 4))) (gName 5))
  (tIfS (tOr (tTest (tOp (fun x y H Q => y = .non ∧ Q (.bl (decide (x = .non))) H) (tOp (rIxL K) (tVar 1) (tVar 4)) (tC .non))) (tTest (tOp (rI0 fun i j => .bl (decide (i < j))) (tVar 5) (tOp (rIxL K) (tVar 1) (tVar 4))))) (tAsg (tVar 5) (gSub (tVar 1) (tVar 4) rSetL)) tNext)) tNext) D σ H := rfl
def t__law_far_1 (K : PySem.W.Frag) : TS :=
  (tFor (iRng1 (tCons (tCB (fun xs H Q => ∃ p ys, xs = [.ref p] ∧ (SqL K H p ys ∨ SqT K H p ys) ∧ Q (.int ys.length) H) (tCons (tVar 0) tNil)) tNil)) (gName 3)
  (tForD (tOp (rIxL K) (tVar 0) (tVar 3)) (gName 4)
  (t__law_far_0 K)))
theorem t__law_far_1_eq (K : PySem.W.Frag) (D : Ends) (σ : St) (H : Hp) : t__law_far_1 K D σ H = (tFor (iRng1 (tCons (tCB (fun xs H Q => ∃ p ys, xs = [.ref p] ∧ (SqL K H p ys ∨ SqT K H p ys) ∧ Q (.int ys.length) H) (tCons (tVar 0) tNil)) tNil)) (gName 3)
  (tForD (tOp (rIxL K) (tVar 0) (tVar 3)) (gName 4)
  (t__law_far_0 K))) D σ H := rfl
def t__law_far (K : PySem.W.Frag) : TS :=
  (tSeq (tAsg (tOp rRep (tLst (tCons (tC .non) tNil)) (tCB (fun xs H Q => ∃ p ys, xs = [.ref p] ∧ (SqL K H p ys ∨ SqT K H p ys) ∧ Q (.int ys.length) H) (tCons (tVar 0) tNil))) (gName 1))
  (tSeq (tAsg (tC (.int 0)) (gSub (tVar 1) (tC (.int 0)) rSetL))
  (tSeq (tFor (iRng1 (tCons (tCB (fun xs H Q => ∃ p ys, xs = [.ref p] ∧ (SqL K H p ys ∨ SqT K H p ys) ∧ Q (.int ys.length) H) (tCons (tVar 0) tNil)) tNil)) (gName 2)
  (t__law_far_1 K))
  (tRet (tVar 1)))))
theorem rd__law_far {nl : Addr} {ds : List Addr} {m : Int} {rs : List Road} (N : NearH H nl ds m rs) (G : GW m rs) (q : ∀ (fl : Addr) (ls : List (Option Int)) (H' : Hp), Same H H' → H' fl = some (.lst (ls.map oV)) → (ls.length : Int) = m → (∀ k x c, Wk (sh rs) k x c → ∃ v, gt ls x = some v ∧ v ≤ c) → Q (.ref fl) H') :
    t__law_far K { nx := fun _ H' => Q .non H', rt := Q } (L2.start ["_law_near_here", "_law_far_here", "_law_turn", "_law_place", "_law_other", "_law_more"] [.ref nl]) H := by
  unfold t__law_far
  have m1 := G.m1
  have m60 := G.m60
  have ln := N.len
  simp only [t__law_far_0_eq, t__law_far_1_eq, tForD, iDict, tDGet, tRev, tComp_eq, rInsert, rRep, capS, tNoTest, gSub, tPart, rSetL, rAppend, Option.bind_some, Option.bind_none, Option.join_some, Option.map_some, List.getElem?_cons_zero, List.getElem?_cons_succ, V.str.injEq, V.ty.injEq, tBM, tFor_eq, iRng1, iList, tSeq, tNext, tAsg, gName, gTup, gCons, gNil, tCB, tCons, tNil, tVar, tC, tOp, tUn, tTest, tOr, tIfS, tRet, tDrop, tLst, tTup, tCall, rI, rI0, rU, rIxL, rIxT, L2.start, truV_int, truV_bl, scal_int, scal_bl, List.map_cons, List.map_nil, List.length_cons, List.length_nil, List.replicate, List.cons_append, List.nil_append, List.append_nil, Option.some.injEq, exists_eq_left', exists_eq_left, exists_and_left, List.cons.injEq, V.int.injEq, V.ref.injEq, V.bl.injEq, and_true, true_and, List.set_cons_zero, List.set_cons_succ, Nat.reduceAdd, Nat.reduceSub, Int.reduceToNat, Int.reducePow, Int.reduceNeg, Int.reduceMul, Int.reduceAdd, Int.reduceSub, decide_eq_true_eq, Bool.not_eq_true', decide_eq_false_iff_not, exists_const, and_assoc, exists_eq, exists_eq', if_true, if_false, Bool.false_eq_true, Bool.true_eq_false, reduceCtorEq, not_true_eq_false, not_false_eq_true]
  refine ⟨by decide, fun l0 hl0 => ?_⟩
  have s1 := same_new hl0 (.lst [V.non])
  have h1 : (L2.upd H l0 (.lst [V.non])) l0 = some (.lst [V.non]) := upd_same
  generalize L2.upd H l0 (.lst [V.non]) = H1 at s1 h1 ⊢
  refine ⟨_, .inl (SqL.of (s1 _ _ N.hl)), ?_⟩
  rw [List.length_map]
  refine ⟨_, h1, by omega, by omega, (by have big : (1000 : Nat) < sizeLine := by decide
                                         rw [List.length_cons, List.length_nil]; omega), fun fl hfl => ?_⟩
  have hfl0 : H fl = none := s1.free hfl
  have er : (List.replicate ((ds.length : Int)).toNat [V.non]).flatten = (List.replicate ds.length (none : Option Int)).map oV := by
    rw [Int.toNat_natCast, List.map_replicate]
    generalize ds.length = n
    induction n with
    | zero => rfl
    | succ n ih => rw [List.replicate_succ, List.flatten_cons, ih, List.replicate_succ]; rfl
  rw [er]
  refine ⟨_, upd_same, 0, ?_, ?_⟩
  · rw [List.length_map, List.length_replicate]
    exact ix_nat (j := 0) (by omega)
  rw [upd_upd]
  have es : ((List.replicate ds.length (none : Option Int)).map oV).set 0 (V.int 0) = ((List.replicate ds.length (none : Option Int)).set 0 (some 0)).map oV := by rw [List.map_set]; rfl
  rw [es]
  have s2 := same_new hfl (.lst (((List.replicate ds.length (none : Option Int)).set 0 (some 0)).map oV))
  have h2 : (L2.upd H1 fl (.lst (((List.replicate ds.length (none : Option Int)).set 0 (some 0)).map oV))) fl = some (.lst (((List.replicate ds.length (none : Option Int)).set 0 (some 0)).map oV)) := upd_same
  generalize L2.upd H1 fl (.lst (((List.replicate ds.length (none : Option Int)).set 0 (some 0)).map oV)) = H2 at s2 h2 ⊢
  have s12 := s1.trans s2
  refine ⟨_, .inl (SqL.of (s12 _ _ N.hl)), ?_⟩
  rw [List.length_map, Int.toNat_natCast]
  refine ⟨by omega, by omega, ?_⟩
  have lw0 : Low rs ((List.replicate ds.length (none : Option Int)).set 0 (some 0)) 0 := by
    intro j hj x c w'
    have : j = 0 := by omega
    subst this
    cases w'
    refine ⟨0, ?_, Int.le_refl _⟩
    have := gt_set (ls := List.replicate ds.length (none : Option Int)) (b := 0) (x := 0) (w := some 0) (by rw [List.length_replicate]; show 0 < ds.length; omega)
    rw [if_pos rfl] at this
    exact this
  refine for_rangeF (fun i σ H' => Same H H' ∧ ∃ (ls : List (Option Int)), H' fl = some (.lst (ls.map oV)) ∧ ls.length = ds.length ∧ Low rs ls i ∧ ∃ x2 x3 x4 x5, σ = [some (.ref nl), some (.ref fl), x2, x3, x4, x5]) ⟨s12, _, h2, by rw [List.length_set, List.length_replicate], lw0, _, _, _, _, rfl⟩ ?_ ?_
  · rintro i σ H3 hi ⟨s3, ls0, h3, l3, low3, x2, x3, x4, x5, rfl⟩
    simp only [t__law_far_0_eq, t__law_far_1_eq, tForD, iDict, tDGet, tRev, tComp_eq, rInsert, rRep, capS, tNoTest, gSub, tPart, rSetL, rAppend, Option.bind_some, Option.bind_none, Option.join_some, Option.map_some, List.getElem?_cons_zero, List.getElem?_cons_succ, V.str.injEq, V.ty.injEq, tBM, tFor_eq, iRng1, iList, tSeq, tNext, tAsg, gName, gTup, gCons, gNil, tCB, tCons, tNil, tVar, tC, tOp, tUn, tTest, tOr, tIfS, tRet, tDrop, tLst, tTup, tCall, rI, rI0, rU, rIxL, rIxT, L2.start, truV_int, truV_bl, scal_int, scal_bl, List.map_cons, List.map_nil, List.length_cons, List.length_nil, List.replicate, List.cons_append, List.nil_append, List.append_nil, Option.some.injEq, exists_eq_left', exists_eq_left, exists_and_left, List.cons.injEq, V.int.injEq, V.ref.injEq, V.bl.injEq, and_true, true_and, List.set_cons_zero, List.set_cons_succ, Nat.reduceAdd, Nat.reduceSub, Int.reduceToNat, Int.reducePow, Int.reduceNeg, Int.reduceMul, Int.reduceAdd, Int.reduceSub, decide_eq_true_eq, Bool.not_eq_true', decide_eq_false_iff_not, exists_const, and_assoc, exists_eq, exists_eq', if_true, if_false, Bool.false_eq_true, Bool.true_eq_false, reduceCtorEq, not_true_eq_false, not_false_eq_true]
    refine ⟨_, .inl (SqL.of (s3 _ _ N.hl)), ?_⟩
    rw [List.length_map, Int.toNat_natCast]
    refine ⟨by omega, by omega, ?_⟩
    refine for_rangeF (fun k σ H' => Same H H' ∧ ∃ (ls : List (Option Int)), H' fl = some (.lst (ls.map oV)) ∧ Rx rs ls0 ls (fun a _ => a < (k : Int)) ∧ ∃ x3 x4 x5, σ = [some (.ref nl), some (.ref fl), some (.int (0 + (i : Int))), x3, x4, x5]) ⟨s3, ls0, h3, ⟨.refl _, fun a b l c e => ?_⟩, _, _, _, rfl⟩ ?_ ?_
    · have := (sh_mem rs G.gr _ _ _ e).1
      omega
    · rintro k σ H4 hk ⟨s4, ls, h4, R4, x3, x4, x5, rfl⟩
      have N4 := N.same s4
      obtain ⟨d, kvs, e1, e2, e3⟩ := N4.at (x := (k : Int)) (by omega) (by omega)
      simp only [t__law_far_0_eq, t__law_far_1_eq, tForD, iDict, tDGet, tRev, tComp_eq, rInsert, rRep, capS, tNoTest, gSub, tPart, rSetL, rAppend, Option.bind_some, Option.bind_none, Option.join_some, Option.map_some, List.getElem?_cons_zero, List.getElem?_cons_succ, V.str.injEq, V.ty.injEq, tBM, tFor_eq, iRng1, iList, tSeq, tNext, tAsg, gName, gTup, gCons, gNil, tCB, tCons, tNil, tVar, tC, tOp, tUn, tTest, tOr, tIfS, tRet, tDrop, tLst, tTup, tCall, rI, rI0, rU, rIxL, rIxT, L2.start, truV_int, truV_bl, scal_int, scal_bl, List.map_cons, List.map_nil, List.length_cons, List.length_nil, List.replicate, List.cons_append, List.nil_append, List.append_nil, Option.some.injEq, exists_eq_left', exists_eq_left, exists_and_left, List.cons.injEq, V.int.injEq, V.ref.injEq, V.bl.injEq, and_true, true_and, List.set_cons_zero, List.set_cons_succ, Nat.reduceAdd, Nat.reduceSub, Int.reduceToNat, Int.reducePow, Int.reduceNeg, Int.reduceMul, Int.reduceAdd, Int.reduceSub, decide_eq_true_eq, Bool.not_eq_true', decide_eq_false_iff_not, exists_const, and_assoc, exists_eq, exists_eq', if_true, if_false, Bool.false_eq_true, Bool.true_eq_false, reduceCtorEq, not_true_eq_false, not_false_eq_true]
      intro F
      refine ⟨_, SqL.of N4.hl, _, by rw [Int.zero_add]; exact e1, ?_⟩
      refine ⟨d, rfl, kvs, e2, fun o hF => ?_⟩
      have ndf : d ≠ fl := ne_of e2 h4 (fun z => nomatch z)
      have nnd : nl ≠ d := ne_of N4.hl e2 (fun z => nomatch z)
      have nnf : nl ≠ fl := ne_of_none N.hl hfl0
      refine for_dictF hF (fun j σ H' => H' d = some (.frz o (.dK kvs)) ∧ (∀ b, b ≠ d → b ≠ fl → H' b = H4 b) ∧ ∃ (ls : List (Option Int)), H' fl = some (.lst (ls.map oV)) ∧ Rx rs ls0 ls (fun a b => a < (k : Int) ∨ (a = (k : Int) ∧ Sum.inl b ∈ (keysOf kvs).take j)) ∧ ∃ x4 x5, σ = [some (.ref nl), some (.ref fl), some (.int (0 + (i : Int))), some (.int (0 + (k : Int))), x4, x5]) ?_ (fun j σ H' _ h => h.1) ?_ ?_
      · refine ⟨upd_same, fun b n1 _ => upd_ne n1, ls, by rw [upd_ne ndf.symm]; exact h4, R4.next (.refl _) fun a b h => .inl (h.resolve_right fun z => by simp at z), _, _, rfl⟩
      · rintro j p σ H5 hp ⟨hd5, k5, ls, h5, R5, x4, x5, rfl⟩
        have lp := (List.getElem?_eq_some_iff.mp hp).1
        have ekey : (keysOf kvs)[j]? = some p.1 := by unfold keysOf; rw [List.getElem?_map, hp]; rfl
        obtain ⟨y, ey⟩ := e3.key p.1 (mem_at ekey)
        have vy := (val_mem kvs (Sum.inl y)).mpr (by rw [← ey]; exact mem_at ekey)
        have vy2 : sh rs k y ≠ none := fun z => vy (by rw [e3.val, z]; rfl)
        obtain ⟨l, hl⟩ := Option.ne_none_iff_exists'.mp vy2
        obtain ⟨_, _, y0, y1, _⟩ := sh_mem rs G.gr _ _ _ hl
        have lls : ls.length = ds.length := by rw [R5.1.1]; exact l3
        have hn5 : H5 nl = some (.lst (ds.map V.ref)) := by rw [k5 _ nnd nnf]; exact N4.hl
        have nxt : ∀ {a b : Int}, (a < (k : Int) ∨ (a = (k : Int) ∧ Sum.inl b ∈ (keysOf kvs).take (j + 1))) → (a < (k : Int) ∨ (a = (k : Int) ∧ Sum.inl b ∈ (keysOf kvs).take j)) ∨ (a = (k : Int) ∧ b = y) := by
          rintro a b (h | ⟨h1, h2⟩)
          · exact .inl (.inl h)
          · rw [List.take_add_one, ekey] at h2
            rcases List.mem_append.mp h2 with z | z
            · exact .inl (.inr ⟨h1, z⟩)
            · have : (Sum.inl b : Key) = p.1 := by simpa using z
              rw [ey] at this
              exact .inr ⟨h1, Sum.inl.inj this⟩
        rw [ey]
        simp only [t__law_far_0_eq, t__law_far_1_eq, tForD, iDict, tDGet, tRev, tComp_eq, rInsert, rRep, capS, tNoTest, gSub, tPart, rSetL, rAppend, Option.bind_some, Option.bind_none, Option.join_some, Option.map_some, List.getElem?_cons_zero, List.getElem?_cons_succ, V.str.injEq, V.ty.injEq, tBM, tFor_eq, iRng1, iList, tSeq, tNext, tAsg, gName, gTup, gCons, gNil, tCB, tCons, tNil, tVar, tC, tOp, tUn, tTest, tOr, tIfS, tRet, tDrop, tLst, tTup, tCall, rI, rI0, rU, rIxL, rIxT, L2.start, truV_int, truV_bl, scal_int, scal_bl, List.map_cons, List.map_nil, List.length_cons, List.length_nil, List.replicate, List.cons_append, List.nil_append, List.append_nil, Option.some.injEq, exists_eq_left', exists_eq_left, exists_and_left, List.cons.injEq, V.int.injEq, V.ref.injEq, V.bl.injEq, and_true, true_and, List.set_cons_zero, List.set_cons_succ, Nat.reduceAdd, Nat.reduceSub, Int.reduceToNat, Int.reducePow, Int.reduceNeg, Int.reduceMul, Int.reduceAdd, Int.reduceSub, decide_eq_true_eq, Bool.not_eq_true', decide_eq_false_iff_not, exists_const, and_assoc, exists_eq, exists_eq', if_true, if_false, Bool.false_eq_true, Bool.true_eq_false, reduceCtorEq, not_true_eq_false, not_false_eq_true]
        have ak := oV_at (ls := ls) (x := (k : Int)) (by omega) (by omega)
        have ay := oV_at (ls := ls) (x := y) y0 (by omega)
        have none5 : ∀ {v : Int}, gt ls (k : Int) = none → gt ls (k : Int) ≠ some v := fun h z => by rw [h] at z; cases z
        refine ⟨_, SqL.of h5, _, by rw [Int.zero_add]; exact ak, ?_⟩
        cases hg : gt ls (k : Int) with
        | none =>
          refine ite2 (fun z => absurd rfl z) (fun _ => ⟨hd5, k5, ls, h5, R5.next (.refl _) fun a b h => ?_⟩)
          rcases nxt h with z | ⟨rfl, rfl⟩
          · exact .inl z
          · exact .inr fun l' e v hv => absurd hv (none5 hg)
        | some v =>
          refine ite2 (fun _ => ?_) (fun z => absurd (fun z' => nomatch z') z)
          rw [hg] at ak
          refine ⟨_, SqL.of h5, _, by rw [Int.zero_add]; exact ak, _, SqL.of hn5, _, by rw [Int.zero_add]; exact e1, d, rfl, .int l, .inl ⟨kvs, .inl y, .inr ⟨o, hd5⟩, rfl, by rw [e3.val, hl]; rfl⟩, v, rfl, l, rfl, _, y, rfl, SqL.of h5, _, ay, ?_⟩
          have put : (∀ u, gt ls y = some u → v + l ≤ u) → (upd H5 fl (.lst ((ls.map oV).set y.toNat (.int (v + l))))) d = some (.frz o (.dK kvs)) ∧ (∀ b, b ≠ d → b ≠ fl → (upd H5 fl (.lst ((ls.map oV).set y.toNat (.int (v + l))))) b = H4 b) ∧ ∃ ls', (upd H5 fl (.lst ((ls.map oV).set y.toNat (.int (v + l))))) fl = some (.lst (ls'.map oV)) ∧ Rx rs ls0 ls' fun a b => a < (k : Int) ∨ a = (k : Int) ∧ Sum.inl b ∈ List.take (j + 1) (keysOf kvs) := by
            intro hu
            refine ⟨by rw [upd_ne ndf]; exact hd5, fun b n1 n2 => by rw [upd_ne n2]; exact k5 b n1 n2, ls.set y.toNat (some (v + l)), by rw [upd_same, List.map_set]; rfl, R5.next (.set (by omega) hu) fun a b h => ?_⟩
            rcases nxt h with z | ⟨rfl, rfl⟩
            · exact .inl z
            · refine .inr fun l' e v' hv => ?_
              rw [hl] at e
              rw [hg] at hv
              cases e
              cases hv
              exact ⟨v + l, by rw [gt_set (by omega), if_pos rfl], Int.le_refl _⟩
          have iy : ixN (ls.map oV).length y = some y.toNat := by
            obtain ⟨n, rfl⟩ : ∃ n : Nat, y = n := ⟨y.toNat, by omega⟩
            rw [List.length_map]
            exact ix_nat (by omega)
          cases hy : gt ls y with
          | none =>
            refine ite2 (fun _ => ?_) (fun z => absurd rfl z)
            exact ⟨_, y, rfl, h5, _, iy, put fun u z => by rw [hy] at z; cases z⟩
          | some u =>
            refine ite2 (fun z => nomatch z) (fun _ => ?_)
            rw [hy] at ay
            refine ⟨_, y, rfl, SqL.of h5, _, ay, ?_⟩
            refine ⟨u, rfl, ite2 (fun c => ⟨_, y, rfl, h5, _, iy, put fun u' z => ?_⟩) (fun c => ⟨hd5, k5, ls, h5, R5.next (.refl _) fun a b h => ?_⟩)⟩
            · rw [hy] at z
              cases z
              omega
            · rcases nxt h with z | ⟨rfl, rfl⟩
              · exact .inl z
              · refine .inr fun l' e v' hv => ?_
                rw [hl] at e
                rw [hg] at hv
                cases e
                cases hv
                exact ⟨u, hy, by omega⟩
      · rintro σ H5 ⟨hd5, k5, ls, h5, R5, x4, x5, rfl⟩
        refine ⟨fun b u hb => ?_, ls, by rw [upd_ne ndf.symm]; exact h5, R5.next (.refl _) fun a b h => ?_, _, _, _, rfl⟩
        · have hb4 := s4 _ _ hb
          by_cases c : b = d
          · subst c
            rw [upd_same, ← e2]
            exact hb4
          · rw [upd_ne c, k5 b c (ne_of_none hb hfl0)]
            exact hb4
        · by_cases c : a < (k : Int)
          · exact .inl (.inl c)
          · have ea : a = (k : Int) := by omega
            subst ea
            by_cases cs : sh rs k b = none
            · exact .inr fun l e => by rw [cs] at e; cases e
            · refine .inl (.inr ⟨rfl, ?_⟩)
              rw [List.take_of_length_le (by rw [keys_len]; exact Nat.le_refl _)]
              refine (val_mem kvs (Sum.inl b)).mp ?_
              rw [e3.val]
              exact fun z => cs (Option.map_eq_none_iff.mp z)
    · rintro σ H4 ⟨s4, ls, h4, R4, x3, x4, x5, rfl⟩
      refine ⟨s4, ls, h4, by rw [R4.1.1]; exact l3, low3.turn R4 fun a b h => ?_, _, _, _, _, rfl⟩
      obtain ⟨l, hl⟩ := Option.ne_none_iff_exists'.mp h
      have := (sh_mem rs G.gr _ _ _ hl).2.1
      omega
  · rintro σ H3 ⟨s3, ls, h3, l3, low3, x2, x3, x4, x5, rfl⟩
    simp only [t__law_far_0_eq, t__law_far_1_eq, tForD, iDict, tDGet, tRev, tComp_eq, rInsert, rRep, capS, tNoTest, gSub, tPart, rSetL, rAppend, Option.bind_some, Option.bind_none, Option.join_some, Option.map_some, List.getElem?_cons_zero, List.getElem?_cons_succ, V.str.injEq, V.ty.injEq, tBM, tFor_eq, iRng1, iList, tSeq, tNext, tAsg, gName, gTup, gCons, gNil, tCB, tCons, tNil, tVar, tC, tOp, tUn, tTest, tOr, tIfS, tRet, tDrop, tLst, tTup, tCall, rI, rI0, rU, rIxL, rIxT, L2.start, truV_int, truV_bl, scal_int, scal_bl, List.map_cons, List.map_nil, List.length_cons, List.length_nil, List.replicate, List.cons_append, List.nil_append, List.append_nil, Option.some.injEq, exists_eq_left', exists_eq_left, exists_and_left, List.cons.injEq, V.int.injEq, V.ref.injEq, V.bl.injEq, and_true, true_and, List.set_cons_zero, List.set_cons_succ, Nat.reduceAdd, Nat.reduceSub, Int.reduceToNat, Int.reducePow, Int.reduceNeg, Int.reduceMul, Int.reduceAdd, Int.reduceSub, decide_eq_true_eq, Bool.not_eq_true', decide_eq_false_iff_not, exists_const, and_assoc, exists_eq, exists_eq', if_true, if_false, Bool.false_eq_true, Bool.true_eq_false, reduceCtorEq, not_true_eq_false, not_false_eq_true]
    refine q fl ls H3 s3 h3 (by omega) fun k x c w' => ?_
    obtain ⟨j, c', h1, h2, h4⟩ := w'.few m1 fun x y l e => by
      have := sh_mem rs G.gr _ _ _ e
      exact ⟨⟨this.2.2.1, this.2.2.2.1⟩, by omega⟩
    obtain ⟨v, e, le⟩ := low3 j (by omega) x c' h2
    exact ⟨v, e, by omega⟩
theorem sc__law_far : FnScope ["_law_near_here", "_law_far_here", "_law_turn", "_law_place", "_law_other", "_law_more"] ["_law_near_here"] (defScope s__law_far) := ⟨rfl, rfl, rfl, by decide +kernel, rfl, by decide +kernel, by decide +kernel⟩
theorem ok__law_far (T : Txt K mg a) : FnOk P w K mg base CX0 1 a.f__law_far a.d__law_far ["_law_near_here"] spFar := by
  refine T.F__law_far.ok sc__law_far (fun vs H Q E h => ?_) (fun cdv A outer s H vs Q E hr h => ?_)
  · obtain ⟨nl, ds, m, rs, rfl, N, G, q⟩ := h
    rfl
  obtain ⟨nl, ds, m, rs, rfl, N, G, q⟩ := h
  exact ⟨t__law_far K, (pss_cons (ps_set (i := 1) sc__law_far.nd rfl (Or.inl rfl) (pe_op op_rep (pe_lst (pa_cons pe_non pa_nil)) (pe_callB call_len_seq rfl T.z_len PySem.boot_len (pa_cons (pv 0) pa_nil))))
  (pss_cons (ps_asg pe_int (pg_sub (pv 1) pe_int set_list))
  (pss_cons (ps_for PassesOwn.never rfl (pi_range1 rfl T.z_range (pa_cons (pe_callB call_len_seq rfl T.z_len PySem.boot_len (pa_cons (pv 0) pa_nil)) pa_nil)) (pg_name (i := 2) sc__law_far.nd rfl (Or.inl rfl))
  (pss_one (ps_for PassesOwn.never rfl (pi_range1 rfl T.z_range (pa_cons (pe_callB call_len_seq rfl T.z_len PySem.boot_len (pa_cons (pv 0) pa_nil)) pa_nil)) (pg_name (i := 3) sc__law_far.nd rfl (Or.inl rfl))
  (pss_one (ps_forD PassesOwn.never rfl (pe_ix ix_list (pv 0) (pv 3) (fun _ _ => rfl)) (pg_name (i := 4) sc__law_far.nd rfl (Or.inl rfl))
  (pss_one (ps_if (pt_cmpR op_notN (pe_ix ix_list (pv 1) (pv 3) (fun _ _ => rfl)) pe_non (nomark _)) (pss_cons (ps_set (i := 5) sc__law_far.nd rfl (Or.inl rfl) (pe_op op_add (pe_ix ix_list (pv 1) (pv 3) (fun _ _ => rfl)) (pe_dget (hu_of hr) (pe_ix ix_list (pv 0) (pv 3) (fun _ _ => rfl)) (pv 4) (fun _ _ => rfl))))
  (pss_one (ps_if (PW.pt (pw_or (pt_cmpR op_isN (pe_ix ix_list (pv 1) (pv 4) (fun _ _ => rfl)) pe_non (nomark _)) (pw_or1 (pt_cmpR op_lt (pv 5) (pe_ix ix_list (pv 1) (pv 4) (fun _ _ => rfl)) (nomark _))))) (pss_one (ps_asg (pv 5) (pg_sub (pv 1) (pv 4) set_list))) pss_nil))) pss_nil)))))))
  (pss_one (ps_ret (pv 1)))))),
    rd__law_far N G q⟩

theorem Tps.rev {α : Type} {f : α → List V} {H : Hp} {ts : List Addr} {bs : List α} (h : Tps f H ts bs) : Tps f H ts.reverse bs.reverse := by
  refine ⟨by rw [List.length_reverse, List.length_reverse, h.1], fun i t b e1 e2 => ?_⟩
  have l1 := (List.getElem?_eq_some_iff.mp e1).1
  have l2 := (List.getElem?_eq_some_iff.mp e2).1
  rw [List.length_reverse] at l1 l2
  rw [List.getElem?_reverse l1] at e1
  rw [List.getElem?_reverse l2, ← h.1] at e2
  exact h.2 _ t b e1 e2
/-- roads of a web in another order, each one turned about -/
theorem turned_of {rl : Addr} {ts : List Addr} {rs : List Road} {g : TG} (hl : H rl = some (.lst (ts.map V.ref))) (hT : Tps rdv H ts rs) (ll : rs.length ≤ 1000) {D : Addr} (hD : H D = none) {f : Road → Road} {te : TE} (hte : ∀ (r : Road) (σ : St) (H1 : Hp) (Q : VK), σ = [some (.int r.1), some (.int r.2.1), some (.int r.2.2)] → (∀ t, H1 t = none → Q (.ref t) (L2.upd H1 t (.tup (rdv (f r))))) → te σ H1 Q) (q : ∀ (us : List Addr) (H' : Hp), Same H H' → H' D = some (.lst (us.map V.ref)) → Tps rdv H' us (rs.map f) → Q (.ref D) H') :
    CompIt (Itl K rl) (gTup K 3 (gCons (gName 0) (gCons (gName 1) (gCons (gName 2) gNil)))) tNoTest te D Q [none, none, none] (L2.upd H D (.lst [])) := by
  refine comp_listF (K := K) (xs := ts.map V.ref) (fun j ys σ H' => Same H H' ∧ ∃ (us : List Addr), ys = us.map V.ref ∧ us.length = j ∧ Tps rdv (Off D D H') us ((rs.take j).map f) ∧ ∃ x y z, σ = [x, y, z]) ⟨same_new hD _, [], rfl, rfl, .nil, _, _, _, rfl⟩ ?_ ?_ ?_
  · rintro j ys σ H' _ ⟨s, _⟩
    exact SqL.of (s _ _ hl)
  · rintro j v ys σ H1 hv hD1 ⟨s, us, rfl, lu, hU, x, y, z, rfl⟩
    obtain ⟨t, et, rfl⟩ := map_at hv
    obtain ⟨r, er, hr0⟩ := hT.at et
    have lj := (List.getElem?_eq_some_iff.mp er).1
    simp only [t__law_far_0_eq, t__law_far_1_eq, tForD, iDict, tDGet, tRev, tComp_eq, rInsert, rRep, capS, tNoTest, gSub, tPart, rSetL, rAppend, Option.bind_some, Option.bind_none, Option.join_some, Option.map_some, List.getElem?_cons_zero, List.getElem?_cons_succ, V.str.injEq, V.ty.injEq, tBM, tFor_eq, iRng1, iList, tSeq, tNext, tAsg, gName, gTup, gCons, gNil, tCB, tCons, tNil, tVar, tC, tOp, tUn, tTest, tOr, tIfS, tRet, tDrop, tLst, tTup, tCall, rI, rI0, rU, rIxL, rIxT, L2.start, truV_int, truV_bl, scal_int, scal_bl, List.map_cons, List.map_nil, List.length_cons, List.length_nil, List.replicate, List.cons_append, List.nil_append, List.append_nil, Option.some.injEq, exists_eq_left', exists_eq_left, exists_and_left, List.cons.injEq, V.int.injEq, V.ref.injEq, V.bl.injEq, and_true, true_and, List.set_cons_zero, List.set_cons_succ, Nat.reduceAdd, Nat.reduceSub, Int.reduceToNat, Int.reducePow, Int.reduceNeg, Int.reduceMul, Int.reduceAdd, Int.reduceSub, decide_eq_true_eq, Bool.not_eq_true', decide_eq_false_iff_not, exists_const, and_assoc, exists_eq, exists_eq', if_true, if_false, Bool.false_eq_true, Bool.true_eq_false, reduceCtorEq, not_true_eq_false, not_false_eq_true]
    refine ⟨_, SqT.of (s _ _ hr0), rfl, _, _, rfl, _, _, rfl, _, _, rfl, rfl, ?_⟩
    refine hte r _ H1 _ rfl fun e he => ?_
    have ne : e ≠ D := (ne_of_none hD1 he).symm
    have s2 := same_new he (.tup (rdv (f r)))
    have h2 : (L2.upd H1 e (.tup (rdv (f r)))) e = some (.tup (rdv (f r))) := upd_same
    generalize L2.upd H1 e (.tup (rdv (f r))) = H2 at s2 h2 ⊢
    refine ⟨_, s2 _ _ hD1, small1000 (by rw [List.length_map, lu]; omega), _, upd_same, (s.trans s2).put hD, us ++ [e], by rw [List.map_append]; rfl, by rw [List.length_append, lu]; rfl, ?_⟩
    rw [off_p, List.take_add_one, er, List.map_append]
    exact (hU.same (off_same D D s2)).put (b := f r) (fun x u h => h) (by rw [off_at ne ne]; exact h2)
  · rintro ys σ H1 hD1 ⟨s, us, rfl, lu, hU, x, y, z, rfl⟩
    rw [List.length_map, hT.1, List.take_length] at hU
    exact q us H1 s hD1 (hU.same (off_le D D H1))
def spOther (K : PySem.W.Frag) : Sp := fun vs H Q _ => ∃ (p w rl : Addr) (ns : List Int) (ts : List Addr) (m : Int) (rs : List Road), vs = [.ref p, .ref w] ∧ SqL K H p (ns.map V.int) ∧ ns.length ≤ 63 ∧ WebH H w rl ts m rs ∧ GW m rs ∧ rs.length ≤ 80 ∧
  ∀ (r w1 w2 rl1 rl2 : Addr) (ts1 ts2 : List Addr) (rs1 rs2 : List Road) (H' : Hp), Same H H' → H' r = some (.lst [.ref w1, .ref w2]) → WebH H' w1 rl1 ts1 m rs1 → WebH H' w2 rl2 ts2 m rs2 → GW m rs1 → GW m rs2 → sh rs1 = sh rs → sh rs2 = sh rs → Q (.ref r) H'
def t__law_told_otherwise_0 (K : PySem.W.Frag) : TS :=
  (tSeq (tAsg (tOp (rIxL K) (tOp (rIxT K) (tVar 1) (tC (.int 1))) (tOp (rI (fun _ j => 0 < j) fun i j => .int (i % j)) (tCall (spMixed K) [] E0 (tCons (tVar 0) (tCons (tOp (rI0 fun i j => .int (i + j)) (tC (.int 400)) (tVar 4)) tNil))) (tCB (fun xs H Q => ∃ p ys, xs = [.ref p] ∧ (SqL K H p ys ∨ SqT K H p ys) ∧ Q (.int ys.length) H) (tCons (tOp (rIxT K) (tVar 1) (tC (.int 1))) tNil)))) (gTup K 3 (gCons (gName 5) (gCons (gName 6) (gCons (gName 7) gNil)))))
  (tDrop (tBM K "list" rInsert (tVar 3) (tCons (tOp (rI (fun _ j => 0 < j) fun i j => .int (i % j)) (tCall (spMixed K) [] E0 (tCons (tVar 0) (tCons (tOp (rI0 fun i j => .int (i + j)) (tC (.int 404)) (tVar 4)) tNil))) (tCB (fun xs H Q => ∃ p ys, xs = [.ref p] ∧ (SqL K H p ys ∨ SqT K H p ys) ∧ Q (.int ys.length) H) (tCons (tVar 3) tNil))) (tCons (tTup (tCons (tVar 6) (tCons (tVar 5) (tCons (tCB (fun xs H Q => ∃ i j, xs = [.int i, .int j] ∧ Q (.int (if j < i then j else i)) H) (tCons (tOp (rI CPow fun i j => .int (i ^ j.toNat)) (tC (.int 10)) (tC (.int 6))) (tCons (tOp (rI0 fun i j => .int (i + j)) (tVar 7) (tVar 4)) tNil))) tNil)))) tNil)))))
theorem t__law_told_otherwise_0_eq (K : PySem.W.Frag) (D : Ends) (σ : St) (H : Hp) : t__law_told_otherwise_0 K D σ H = (tSeq (tAsg (tOp (rIxL K) (tOp (rIxT K) (tVar 1) (tC (.int 1))) (tOp (rI (fun _ j => 0 < j) fun i j => .int (i % j)) (tCall (spMixed K) [] E0 (tCons (tVar 0) (tCons (tOp (rI0 fun i j => .int (i + j)) (tC (.int 400)) (tVar 4)) tNil))) (tCB (fun xs H Q => ∃ p ys, xs = [.ref p] ∧ (SqL K H p ys ∨ SqT K H p ys) ∧ Q (.int ys.length) H) (tCons (tOp (rIxT K) (tVar 1) (tC (.int 1))) tNil)))) (gTup K 3 (gCons (gName 5) (gCons (gName 6) (gCons (gName 7) gNil)))))
  (tDrop (tBM K "list" rInsert (tVar 3) (tCons (tOp (rI (fun _ j => 0 < j) fun i j => .int (i % j)) (tCall (spMixed K) [] E0 (tCons (tVar 0) (tCons (tOp (rI0 fun i j => .int (i + j)) (tC (.int 404)) (tVar 4)) tNil))) (tCB (fun xs H Q => ∃ p ys, xs = [.ref p] ∧ (SqL K H p ys ∨ SqT K H p ys) ∧ Q (.int ys.length) H) (tCons (tVar 3) tNil))) (tCons (tTup (tCons (tVar 6) (tCons (tVar 5) (tCons (tCB (fun xs H Q => ∃ i j, xs = [.int i, .int j] ∧ Q (.int (if j < i then j else i)) H) (tCons (tOp (rI CPow fun i j => .int (i ^ j.toNat)) (tC (.int 10)) (tC (.int 6))) (tCons (tOp (rI0 fun i j => .int (i + j)) (tVar 7) (tVar 4)) tNil))) tNil)))) tNil))))) D σ H := rfl
def t__law_told_otherwise (K : PySem.W.Frag) : TS :=
  (tSeq (tAsg (tTup (tCons (tOp (rIxT K) (tVar 1) (tC (.int 0))) (tCons (tComp (iList K (tRev K (tOp (rIxT K) (tVar 1) (tC (.int 1))) (tPart (tUn (rU fun i => .int (-i)) (tC (.int 1)))))) (gTup K 3 (gCons (gName 0) (gCons (gName 1) (gCons (gName 2) gNil)))) tNoTest (tTup (tCons (tVar 1) (tCons (tVar 0) (tCons (tVar 2) tNil)))) [none, none, none]) tNil))) (gName 2))
  (tSeq (tAsg (tCB (fun xs H Q => ∃ p ys, xs = [.ref p] ∧ (SqL K H p ys ∨ SqT K H p ys) ∧ ∀ l, H l = none → Q (.ref l) (upd H l (.lst ys))) (tCons (tOp (rIxT K) (tVar 1) (tC (.int 1))) tNil)) (gName 3))
  (tSeq (tFor (iRng1 (tCons (tCB (fun xs H Q => ∃ i j, xs = [.int i, .int j] ∧ Q (.int (if j < i then j else i)) H) (tCons (tC (.int 3)) (tCons (tCB (fun xs H Q => ∃ p ys, xs = [.ref p] ∧ (SqL K H p ys ∨ SqT K H p ys) ∧ Q (.int ys.length) H) (tCons (tOp (rIxT K) (tVar 1) (tC (.int 1))) tNil)) tNil))) tNil)) (gName 4)
  (t__law_told_otherwise_0 K))
  (tRet (tLst (tCons (tVar 2) (tCons (tTup (tCons (tOp (rIxT K) (tVar 1) (tC (.int 0))) (tCons (tVar 3) tNil))) tNil)))))))
theorem rd__law_told_otherwise {p w rl : Addr} {ns : List Int} {ts : List Addr} {m : Int} {rs : List Road} (hS : SqL K H p (ns.map V.int)) (hl : ns.length ≤ 63) (W : WebH H w rl ts m rs) (G : GW m rs) (l80 : rs.length ≤ 80)
    (q : ∀ (r w1 w2 rl1 rl2 : Addr) (ts1 ts2 : List Addr) (rs1 rs2 : List Road) (H' : Hp), Same H H' → H' r = some (.lst [.ref w1, .ref w2]) → WebH H' w1 rl1 ts1 m rs1 → WebH H' w2 rl2 ts2 m rs2 → GW m rs1 → GW m rs2 → sh rs1 = sh rs → sh rs2 = sh rs → Q (.ref r) H') :
    t__law_told_otherwise K { nx := fun _ H' => Q .non H', rt := Q } (L2.start ["_law_script", "_law_web_here", "_law_turned", "_law_more", "_law_k", "_law_a", "_law_b", "_law_length_here"] [.ref p, .ref w]) H := by
  unfold t__law_told_otherwise
  have m1 := G.m1
  have m60 := G.m60
  simp only [t__law_told_otherwise_0_eq, rNeE, rSortedD, tDGet, tRev, tComp_eq, rMaxL, rInsert, rNeD, capS, tNoTest, tPart, rAppend, Option.bind_some, Option.bind_none, Option.join_some, Option.map_some, List.getElem?_cons_zero, List.getElem?_cons_succ, rCat, V.str.injEq, V.ty.injEq, tBM, tFor_eq, iRng1, iList, tSeq, tNext, tAsg, gName, gTup, gCons, gNil, tCB, tCons, tNil, tVar, tC, tOp, tUn, tTest, tAnd, tIfS, tRet, tDrop, tLst, tTup, tCall, rI, rI0, rU, rEq, rIxL, rIxT, L2.start, truV_int, truV_bl, scal_int, scal_bl, List.map_cons, List.map_nil, List.length_cons, List.length_nil, List.replicate, List.cons_append, List.nil_append, List.append_nil, Option.some.injEq, exists_eq_left', exists_eq_left, exists_and_left, List.cons.injEq, V.int.injEq, V.ref.injEq, V.bl.injEq, and_true, true_and, List.set_cons_zero, List.set_cons_succ, Nat.reduceAdd, Nat.reduceSub, Int.reduceToNat, Int.reducePow, Int.reduceNeg, Int.reduceMul, Int.reduceAdd, Int.reduceSub, decide_eq_true_eq, Bool.not_eq_true', decide_eq_false_iff_not, exists_const, and_assoc, exists_eq, exists_eq', if_true, if_false, Bool.false_eq_true, Bool.true_eq_false, reduceCtorEq, not_true_eq_false, not_false_eq_true]
  refine ⟨_, SqT.of W.hw, _, rfl, _, SqT.of W.hw, _, rfl, ?_⟩
  refine ⟨rl, rfl, _, SqL.of W.hl, fun l1 hl1 => ?_⟩
  rw [← List.map_reverse]
  have s1 := same_new hl1 (.lst (ts.reverse.map V.ref))
  have h1 : (L2.upd H l1 (.lst (ts.reverse.map V.ref))) l1 = some (.lst (ts.reverse.map V.ref)) := upd_same
  generalize L2.upd H l1 (.lst (ts.reverse.map V.ref)) = H1 at s1 h1 ⊢
  refine ⟨⟨_, SqL.of h1⟩, fun D hD => ?_⟩
  refine turned_of (f := trn) (g := gName 0) h1 (W.ht.same s1).rev (by rw [List.length_reverse]; omega) hD (fun r σ H2 Q2 e q2 => ?_) fun us H2 s2 hD2 hU => ?_
  · subst e
    simp only [t__law_told_otherwise_0_eq, rNeE, rSortedD, tDGet, tRev, tComp_eq, rMaxL, rInsert, rNeD, capS, tNoTest, tPart, rAppend, Option.bind_some, Option.bind_none, Option.join_some, Option.map_some, List.getElem?_cons_zero, List.getElem?_cons_succ, rCat, V.str.injEq, V.ty.injEq, tBM, tFor_eq, iRng1, iList, tSeq, tNext, tAsg, gName, gTup, gCons, gNil, tCB, tCons, tNil, tVar, tC, tOp, tUn, tTest, tAnd, tIfS, tRet, tDrop, tLst, tTup, tCall, rI, rI0, rU, rEq, rIxL, rIxT, L2.start, truV_int, truV_bl, scal_int, scal_bl, List.map_cons, List.map_nil, List.length_cons, List.length_nil, List.replicate, List.cons_append, List.nil_append, List.append_nil, Option.some.injEq, exists_eq_left', exists_eq_left, exists_and_left, List.cons.injEq, V.int.injEq, V.ref.injEq, V.bl.injEq, and_true, true_and, List.set_cons_zero, List.set_cons_succ, Nat.reduceAdd, Nat.reduceSub, Int.reduceToNat, Int.reducePow, Int.reduceNeg, Int.reduceMul, Int.reduceAdd, Int.reduceSub, decide_eq_true_eq, Bool.not_eq_true', decide_eq_false_iff_not, exists_const, and_assoc, exists_eq, exists_eq', if_true, if_false, Bool.false_eq_true, Bool.true_eq_false, reduceCtorEq, not_true_eq_false, not_false_eq_true]
    exact ⟨by decide, q2⟩
  have s12 := s1.trans s2
  refine ⟨by decide, fun w1 hw1 => ?_⟩
  have s3 := same_new hw1 (.tup [V.int m, V.ref D])
  have h3 : (L2.upd H2 w1 (.tup [V.int m, V.ref D])) w1 = some (.tup [V.int m, V.ref D]) := upd_same
  generalize L2.upd H2 w1 (.tup [V.int m, V.ref D]) = H3 at s3 h3 ⊢
  have s13 := s12.trans s3
  have W1 : WebH H3 w1 D us m (rs.reverse.map trn) := ⟨h3, s3 _ _ hD2, hU.same s3⟩
  have W3 := W.same s13
  refine ⟨_, SqT.of W3.hw, _, rfl, _, rfl, _, .inl (SqL.of W3.hl), fun ml hml => ?_⟩
  have hml0 : H ml = none := s13.free hml
  have s4 := same_new hml (.lst (ts.map V.ref))
  have h4 : (L2.upd H3 ml (.lst (ts.map V.ref))) ml = some (.lst (ts.map V.ref)) := upd_same
  generalize L2.upd H3 ml (.lst (ts.map V.ref)) = H4 at s4 h4 ⊢
  have s14 := s13.trans s4
  have W4 := W.same s14
  refine ⟨_, SqT.of W4.hw, _, rfl, _, rfl, _, .inl (SqL.of W4.hl), ?_⟩
  rw [List.length_map, W.ht.1]
  have c3 : (if (rs.length : Int) < 3 then (rs.length : Int) else 3) = min (rs.length : Int) 3 := by split <;> omega
  rw [c3]
  refine ⟨by omega, by omega, ?_⟩
  refine for_rangeF (fun i σ H' => Same H3 H' ∧ (∃ (ts2 : List Addr) (rs2 : List Road), H' ml = some (.lst (ts2.map V.ref)) ∧ Tps rdv (Off ml ml H') ts2 rs2 ∧ rs2.length = rs.length + i ∧ (∀ r ∈ rs, r ∈ rs2) ∧ (∀ r ∈ rs2, GR m r) ∧ Dom rs2 rs) ∧ ∃ x4 x5 x6 x7, σ = [some (.ref p), some (.ref w), some (.ref w1), some (.ref ml), x4, x5, x6, x7]) ⟨s4, ⟨ts, rs, h4, ?_, rfl, fun _ h => h, G.gr, .self fun _ h => h⟩, _, _, _, _, rfl⟩ ?_ ?_
  · refine ⟨W.ht.1, fun i t b e1 e2 => ?_⟩
    have ht := W.ht.2 i t b e1 e2
    have nt : t ≠ ml := ne_of_none ht hml0
    rw [off_at nt nt]
    exact s14 _ _ ht
  · rintro i σ H5 hi ⟨s5, ⟨ts2, rs2, h5, T5, l5, sub, gr, dm⟩, x4, x5, x6, x7, rfl⟩
    simp only [t__law_told_otherwise_0_eq, rNeE, rSortedD, tDGet, tRev, tComp_eq, rMaxL, rInsert, rNeD, capS, tNoTest, tPart, rAppend, Option.bind_some, Option.bind_none, Option.join_some, Option.map_some, List.getElem?_cons_zero, List.getElem?_cons_succ, rCat, V.str.injEq, V.ty.injEq, tBM, tFor_eq, iRng1, iList, tSeq, tNext, tAsg, gName, gTup, gCons, gNil, tCB, tCons, tNil, tVar, tC, tOp, tUn, tTest, tAnd, tIfS, tRet, tDrop, tLst, tTup, tCall, rI, rI0, rU, rEq, rIxL, rIxT, L2.start, truV_int, truV_bl, scal_int, scal_bl, List.map_cons, List.map_nil, List.length_cons, List.length_nil, List.replicate, List.cons_append, List.nil_append, List.append_nil, Option.some.injEq, exists_eq_left', exists_eq_left, exists_and_left, List.cons.injEq, V.int.injEq, V.ref.injEq, V.bl.injEq, and_true, true_and, List.set_cons_zero, List.set_cons_succ, Nat.reduceAdd, Nat.reduceSub, Int.reduceToNat, Int.reducePow, Int.reduceNeg, Int.reduceMul, Int.reduceAdd, Int.reduceSub, decide_eq_true_eq, Bool.not_eq_true', decide_eq_false_iff_not, exists_const, and_assoc, exists_eq, exists_eq', if_true, if_false, Bool.false_eq_true, Bool.true_eq_false, reduceCtorEq, not_true_eq_false, not_false_eq_true]
    have s15 := s13.trans s5
    have W5 := W.same s15
    refine ⟨_, SqT.of W5.hw, _, rfl, ?_⟩
    refine ⟨p, ns, _, rfl, s15.seq hS, hl, by omega, by omega, fun n n0 n1 => ?_⟩
    refine ⟨_, SqT.of W5.hw, _, rfl, _, rfl, _, .inl (SqL.of W5.hl), _, rfl, ?_⟩
    rw [List.length_map, W.ht.1]
    have z0 := Int.emod_nonneg n (show (rs.length : Int) ≠ 0 by omega)
    have z1 := Int.emod_lt_of_pos n (show 0 < (rs.length : Int) by omega)
    generalize n % (rs.length : Int) = k at z0 z1
    obtain ⟨kk, rfl⟩ : ∃ kk : Nat, k = kk := ⟨k.toNat, by omega⟩
    have er : rs[kk]? = some rs[kk] := List.getElem?_eq_getElem (by omega)
    have et : ts[kk]? = some (ts[kk]'(by rw [W.ht.1]; omega)) := List.getElem?_eq_getElem (by rw [W.ht.1]; omega)
    generalize rs[kk] = r0 at er
    generalize ts[kk]'(by rw [W.ht.1]; omega) = t0 at et
    have ht0 := W5.ht.2 kk t0 r0 et er
    obtain ⟨g1, g2, g3, g4, g5, g6, g7⟩ := G.gr r0 (mem_at er)
    refine ⟨by omega, rl, rfl, _, SqL.of W5.hl, _, atI_nat (by rw [List.getElem?_map, et]; rfl), t0, rfl, _, SqT.of ht0, rfl, _, _, rfl, _, _, rfl, _, _, rfl, rfl, .inl ⟨rfl, _, SqL.of h5⟩, ?_⟩
    refine ⟨p, ns, _, rfl, s15.seq hS, hl, by omega, by omega, fun n2 n20 n21 => ?_⟩
    refine ⟨_, .inl (SqL.of h5), _, rfl, ?_⟩
    rw [List.length_map]
    have lt2 : ts2.length = rs.length + i := by rw [T5.1]; exact l5
    have y0 := Int.emod_nonneg n2 (show (ts2.length : Int) ≠ 0 by omega)
    have y1 := Int.emod_lt_of_pos n2 (show 0 < (ts2.length : Int) by omega)
    generalize n2 % (ts2.length : Int) = k2 at y0 y1
    refine ⟨by omega, pow6, _, rfl, by decide, fun a6 ha6 => ?_⟩
    have le1 : r0.2.2 ≤ (if r0.2.2 + (0 + (i : Int)) < 1000000 then r0.2.2 + (0 + (i : Int)) else 1000000) := by split <;> omega
    have le2 : (if r0.2.2 + (0 + (i : Int)) < 1000000 then r0.2.2 + (0 + (i : Int)) else 1000000) ≤ 1000000 := by split <;> omega
    generalize (if r0.2.2 + (0 + (i : Int)) < 1000000 then r0.2.2 + (0 + (i : Int)) else 1000000) = le at le1 le2
    have s6 := same_new ha6 (.tup [V.int r0.2.1, V.int r0.1, V.int le])
    have h6 : (L2.upd H5 a6 (.tup [V.int r0.2.1, V.int r0.1, V.int le])) a6 = some (.tup [V.int r0.2.1, V.int r0.1, V.int le]) := upd_same
    generalize L2.upd H5 a6 (.tup [V.int r0.2.1, V.int r0.1, V.int le]) = H6 at s6 h6 ⊢
    have h56 := s6 _ _ h5
    have T6 := T5.same (off_same ml ml s6)
    have n6 : a6 ≠ ml := (ne_of_none h5 ha6).symm
    have h6' : Off ml ml H6 a6 = some (.tup (rdv (r0.2.1, r0.1, le))) := by rw [off_at n6 n6]; exact h6
    refine ⟨_, h56, y0, by rw [List.length_map]; omega, by rw [List.length_map]; omega, (s5.trans s6).put hml, insAt ts2 k2.toNat a6, by rw [upd_same, insAt_map]; rfl, insAt rs2 k2.toNat (r0.2.1, r0.1, le), ?_, by rw [insAt_len (by omega)]; omega, fun r hr => insAt_mem.mpr (.inr (sub r hr)), fun r hr => ?_, fun r hr => ?_⟩
    · rw [off_p]
      exact T6.ins (by omega) h6'
    · rcases insAt_mem.mp hr with rfl | hr
      · exact ⟨g3, g4, g1, g2, g5.symm, by show 1 ≤ le; omega, le2⟩
      · exact gr r hr
    · rcases insAt_mem.mp hr with rfl | hr
      · exact ⟨r0, mem_at er, fun x y j => j.elim (fun z => .inr ⟨z.2, z.1⟩) (fun z => .inl ⟨z.2, z.1⟩), le1⟩
      · exact dm r hr
  · rintro σ H5 ⟨s5, ⟨ts2, rs2, h5, T5, l5, sub, gr, dm⟩, x4, x5, x6, x7, rfl⟩
    simp only [t__law_told_otherwise_0_eq, rNeE, rSortedD, tDGet, tRev, tComp_eq, rMaxL, rInsert, rNeD, capS, tNoTest, tPart, rAppend, Option.bind_some, Option.bind_none, Option.join_some, Option.map_some, List.getElem?_cons_zero, List.getElem?_cons_succ, rCat, V.str.injEq, V.ty.injEq, tBM, tFor_eq, iRng1, iList, tSeq, tNext, tAsg, gName, gTup, gCons, gNil, tCB, tCons, tNil, tVar, tC, tOp, tUn, tTest, tAnd, tIfS, tRet, tDrop, tLst, tTup, tCall, rI, rI0, rU, rEq, rIxL, rIxT, L2.start, truV_int, truV_bl, scal_int, scal_bl, List.map_cons, List.map_nil, List.length_cons, List.length_nil, List.replicate, List.cons_append, List.nil_append, List.append_nil, Option.some.injEq, exists_eq_left', exists_eq_left, exists_and_left, List.cons.injEq, V.int.injEq, V.ref.injEq, V.bl.injEq, and_true, true_and, List.set_cons_zero, List.set_cons_succ, Nat.reduceAdd, Nat.reduceSub, Int.reduceToNat, Int.reducePow, Int.reduceNeg, Int.reduceMul, Int.reduceAdd, Int.reduceSub, decide_eq_true_eq, Bool.not_eq_true', decide_eq_false_iff_not, exists_const, and_assoc, exists_eq, exists_eq', if_true, if_false, Bool.false_eq_true, Bool.true_eq_false, reduceCtorEq, not_true_eq_false, not_false_eq_true]
    have s15 := s13.trans s5
    have W5 := W.same s15
    refine ⟨_, SqT.of W5.hw, _, rfl, by decide, fun w2 hw2 => ?_⟩
    have s6 := same_new hw2 (.tup [V.int m, V.ref ml])
    have h6 : (L2.upd H5 w2 (.tup [V.int m, V.ref ml])) w2 = some (.tup [V.int m, V.ref ml]) := upd_same
    generalize L2.upd H5 w2 (.tup [V.int m, V.ref ml]) = H6 at s6 h6 ⊢
    refine ⟨by decide, fun r hr => ?_⟩
    have s7 := same_new hr (.lst [V.ref w1, V.ref w2])
    have h7 : (L2.upd H6 r (.lst [V.ref w1, V.ref w2])) r = some (.lst [V.ref w1, V.ref w2]) := upd_same
    generalize L2.upd H6 r (.lst [V.ref w1, V.ref w2]) = H7 at s7 h7 ⊢
    have s57 := s6.trans s7
    have T7 := (T5.same (off_le ml ml H5)).same s57
    refine q r w1 w2 D ml us ts2 _ rs2 H7 (s15.trans s57) h7 (W1.same (s5.trans s57)) ⟨s7 _ _ h6, s57 _ _ h5, T7⟩ G.trn (G.more sub gr (by omega)) (sh_trn rs) (sh_dom dm (.self sub))
theorem sc__law_told_otherwise : FnScope ["_law_script", "_law_web_here", "_law_turned", "_law_more", "_law_k", "_law_a", "_law_b", "_law_length_here"] ["_law_script", "_law_web_here"] (defScope s__law_told_otherwise) := ⟨rfl, rfl, rfl, by decide +kernel, rfl, by decide +kernel, by decide +kernel⟩
theorem ok__law_told_otherwise (T : Txt K mg a) : FnOk P w K mg base CX0 3 a.f__law_told_otherwise a.d__law_told_otherwise ["_law_script", "_law_web_here"] (spOther K) := by
  have G__law_mixed := ok__law_mixed (P := P) (w := w) (base := base) T
  refine T.F__law_told_otherwise.ok sc__law_told_otherwise (fun vs H Q E h => ?_) (fun cdv A outer s H vs Q E hr h => ?_)
  · obtain ⟨p, w', rl, ns, ts, m, rs, rfl, hS, hl, W, G, l80, q⟩ := h
    rfl
  obtain ⟨p, w', rl, ns, ts, m, rs, rfl, hS, hl, W, G, l80, q⟩ := h
  exact ⟨t__law_told_otherwise K, (pss_cons (ps_set (i := 2) sc__law_told_otherwise.nd rfl (Or.inl rfl) (pe_tup (pa_cons (pe_ix ix_tup (pv 1) pe_int (fun _ _ => rfl)) (pa_cons (pe_comp (sc := defScope s__law_told_otherwise) (N := ["_law_script", "_law_web_here", "_law_turned", "_law_more", "_law_k", "_law_a", "_law_b", "_law_length_here"]) (Nc := ["_law_a", "_law_b", "_law_length_here"]) (cap := [none, none, none]) rfl rfl rfl (.of (by decide +kernel)) (pi_list (pe_rev (pe_ix ix_tup (pv 1) pe_int (fun _ _ => rfl)) (po_some (pe_un un_neg pe_int)))) (fun _ _ _ _ => (pg_tup rfl (pgs_cons (pg_name (i := 0) (show List.Nodup (["_law_a", "_law_b", "_law_length_here"] : List Str) from by decide) rfl (Or.inl rfl)) (pgs_cons (pg_name (i := 1) (show List.Nodup (["_law_a", "_law_b", "_law_length_here"] : List Str) from by decide) rfl (Or.inl rfl)) (pgs_cons (pg_name (i := 2) (show List.Nodup (["_law_a", "_law_b", "_law_length_here"] : List Str) from by decide) rfl (Or.inl rfl)) pgs_nil))))) (fun _ _ _ _ => pts_nil) (fun _ _ _ _ => (pe_tup (pa_cons (pv 1) (pa_cons (pv 0) (pa_cons (pv 2) pa_nil)))))) pa_nil))))
  (pss_cons (ps_set (i := 3) sc__law_told_otherwise.nd rfl (Or.inl rfl) (pe_callTy call_list_of rfl T.z_list boot_list (pa_cons (pe_ix ix_tup (pv 1) pe_int (fun _ _ => rfl)) pa_nil)))
  (pss_cons (ps_for PassesOwn.never rfl (pi_range1 rfl T.z_range (pa_cons (pe_callB (call_min2 rfl) rfl T.z_min PyProof.Rows.boot_min (pa_cons pe_int (pa_cons (pe_callB call_len_seq rfl T.z_len PySem.boot_len (pa_cons (pe_ix ix_tup (pv 1) pe_int (fun _ _ => rfl)) pa_nil)) pa_nil))) pa_nil)) (pg_name (i := 4) sc__law_told_otherwise.nd rfl (Or.inl rfl))
  (pss_cons (ps_asg (pe_ix ix_list (pe_ix ix_tup (pv 1) pe_int (fun _ _ => rfl)) (pe_op op_mod (pe_call G__law_mixed (hr.mono (by decide)) rfl T.m__law_mixed T.F__law_mixed.kp T.b__law_mixed .nil pass0 (pa_cons (pv 0) (pa_cons (pe_op op_add pe_int (pv 4)) pa_nil))) (pe_callB call_len_seq rfl T.z_len PySem.boot_len (pa_cons (pe_ix ix_tup (pv 1) pe_int (fun _ _ => rfl)) pa_nil))) (fun _ _ => rfl)) (pg_tup rfl (pgs_cons (pg_name (i := 5) sc__law_told_otherwise.nd rfl (Or.inl rfl)) (pgs_cons (pg_name (i := 6) sc__law_told_otherwise.nd rfl (Or.inl rfl)) (pgs_cons (pg_name (i := 7) sc__law_told_otherwise.nd rfl (Or.inl rfl)) pgs_nil)))))
  (pss_one (ps_expr (pe_bm PySem.F.plainAttrs_list PySem.F.slot_list_insert PySem.F.type_list_insert mt_insert (pv 3) (pa_cons (pe_op op_mod (pe_call G__law_mixed (hr.mono (by decide)) rfl T.m__law_mixed T.F__law_mixed.kp T.b__law_mixed .nil pass0 (pa_cons (pv 0) (pa_cons (pe_op op_add pe_int (pv 4)) pa_nil))) (pe_callB call_len_seq rfl T.z_len PySem.boot_len (pa_cons (pv 3) pa_nil))) (pa_cons (pe_tup (pa_cons (pv 6) (pa_cons (pv 5) (pa_cons (pe_callB (call_min2 rfl) rfl T.z_min PyProof.Rows.boot_min (pa_cons (pe_op op_pow pe_int pe_int) (pa_cons (pe_op op_add (pv 7) (pv 4)) pa_nil))) pa_nil)))) pa_nil)))))))
  (pss_one (ps_ret (pe_lst (pa_cons (pv 2) (pa_cons (pe_tup (pa_cons (pe_ix ix_tup (pv 1) pe_int (fun _ _ => rfl)) (pa_cons (pv 3) pa_nil))) pa_nil)))))))),
    rd__law_told_otherwise hS hl W G l80 q⟩

theorem ints_shows {n : Nat} {l : Addr} {ns : List Int} (h : H l = some (.lst (ns.map V.int))) : Shows K H (n + 1) (.lst (ns.map Tr.int)) (.ref l) := by
  refine .lst (SqL.of h) (by rw [List.length_map, List.length_map]) fun i x t e1 e2 => ?_
  obtain ⟨a, ha, rfl⟩ := map_at e1
  obtain ⟨b, hb, rfl⟩ := map_at e2
  rw [ha] at hb
  cases hb
  exact .int _
theorem PlanC.copy {H : Hp} {rs : List Road} {m : Int} {kd : Str} {pl l2 : Addr} {c : Ct} (h : PlanC H rs m kd pl c) (e : H l2 = H pl) : PlanC H rs m kd l2 c := by
  rcases h with ⟨k, ws, h1, h2⟩ | ⟨k, us, ps, h1, h2⟩
  · exact .inl ⟨k, ws, by rw [e]; exact h1, h2⟩
  · exact .inr ⟨k, us, ps, by rw [e]; exact h1, h2⟩
theorem PlanC.other {H : Hp} {rs rs' : List Road} {m : Int} {kd : Str} {pl : Addr} {c : Ct} (h : PlanC H rs m kd pl c) (e : sh rs' = sh rs) : PlanC H rs' m kd pl c := by
  unfold PlanC at h ⊢
  rw [e]
  exact h
theorem PlanC.dbl {H : Hp} {rs : List Road} {m : Int} {kd : Str} {pl : Addr} {c : Ct} (h : PlanC H rs m kd pl c) : PlanC H (rs.map My.dbl) m kd pl (dC c) := by
  rcases h with ⟨k, ws, h1, h2, rfl⟩ | ⟨k, us, ps, h1, h2, h3, rfl⟩
  · refine .inl ⟨k, ws, h1, ?_, ?_⟩
    · rw [sh_dbl]
      exact h2.dbl
    · rw [sh_dbl, wkC_dbl]
      rfl
  · refine .inr ⟨k, us, ps, h1, h2, ?_, ?_⟩
    · rw [sh_dbl]
      exact h3.dbl
    · rw [sh_dbl, spC_dbl]
      rfl
theorem Wlk.inR {rs : List Road} {m : Int} {ws : List Int} (h : Wlk (sh rs) m ws) (G : GW m rs) : ∀ x ∈ ws, 0 ≤ x ∧ x < m := by
  intro x hx
  have m1 := G.m1
  obtain ⟨j, hj⟩ := List.getElem?_of_mem hx
  have lj := (List.getElem?_eq_some_iff.mp hj).1
  cases j with
  | zero =>
    rw [h.first] at hj
    cases hj
    exact ⟨by decide, by omega⟩
  | succ j =>
    have ej : ws[j]? = some (ws[j]'(by omega)) := List.getElem?_eq_getElem (by omega)
    obtain ⟨l, hl⟩ := Option.ne_none_iff_exists'.mp (h.ok j _ _ ej hj)
    obtain ⟨_, _, b0, b1, _⟩ := sh_mem rs G.gr _ _ _ hl
    exact ⟨b0, b1⟩
/-- what is known of a plan and its costs -/
structure PlanF (H : Hp) (rs : List Road) (m : Int) (kd : Str) (pl lg : Addr) (ls : List (Option Int)) (c : Ct) : Prop where
  pc : PlanC H rs m kd pl c
  lgr : kd = "walk" → PlanC H rs m "walk" lg c
  far : ∀ x, 0 ≤ x → x < m → ∃ v u, c x = some v ∧ gt ls x = some u ∧ u ≤ v
  its : (kd = "walk" ∧ ∃ ws : List Int, H pl = some (.lst (ws.map V.int))) ∨ (kd = "spread" ∧ ∃ (us : List Addr) (ps : List (Int × Int)), H pl = some (.lst (us.map V.ref)) ∧ Tps prv H us ps ∧ ∀ p ∈ ps, ∃ va vb l, c p.1 = some va ∧ c p.2 = some vb ∧ sh rs p.1 p.2 = some l ∧ va + l ≤ vb)
theorem PlanF.same {H H' : Hp} {rs : List Road} {m : Int} {kd : Str} {pl lg : Addr} {ls : List (Option Int)} {c : Ct} (h : PlanF H rs m kd pl lg ls c) (s : Same H H') : PlanF H' rs m kd pl lg ls c := by
  refine ⟨h.pc.same s, fun e => (h.lgr e).same s, h.far, ?_⟩
  rcases h.its with ⟨k, ws, h1⟩ | ⟨k, us, ps, h1, h2, h3⟩
  · exact .inl ⟨k, ws, s _ _ h1⟩
  · exact .inr ⟨k, us, ps, s _ _ h1, h2.same s, h3⟩
/-- the lengths of roads -/
theorem lens_of {rl : Addr} {ts : List Addr} {rs : List Road} (hl : H rl = some (.lst (ts.map V.ref))) (hT : Tps rdv H ts rs) (ll : rs.length ≤ 1000) {D : Addr} (hD : H D = none) (q : ∀ (H' : Hp), Same H H' → H' D = some (.lst ((rs.map fun r => r.2.2).map V.int)) → Q (.ref D) H') :
    CompIt (Itl K rl) (gName 0) tNoTest (tOp (rIxT K) (tVar 0) (tC (.int 2))) D Q [none] (L2.upd H D (.lst [])) := by
  refine comp_listF (K := K) (xs := ts.map V.ref) (fun j ys σ H' => Same H H' ∧ ys = ((rs.take j).map fun r => r.2.2).map V.int ∧ ∃ x, σ = [x]) ⟨same_new hD _, rfl, _, rfl⟩ ?_ ?_ ?_
  · rintro j ys σ H' _ ⟨s, _⟩
    exact SqL.of (s _ _ hl)
  · rintro j v ys σ H1 hv hD1 ⟨s, rfl, x, rfl⟩
    obtain ⟨t, et, rfl⟩ := map_at hv
    obtain ⟨r, er, hr0⟩ := hT.at et
    have lj := (List.getElem?_eq_some_iff.mp er).1
    simp only [t__law_told_otherwise_0_eq, rNeE, rSortedD, tDGet, tRev, tComp_eq, rMaxL, rInsert, rNeD, capS, tNoTest, tPart, rAppend, Option.bind_some, Option.bind_none, Option.join_some, Option.map_some, List.getElem?_cons_zero, List.getElem?_cons_succ, rCat, V.str.injEq, V.ty.injEq, tBM, tFor_eq, iRng1, iList, tSeq, tNext, tAsg, gName, gTup, gCons, gNil, tCB, tCons, tNil, tVar, tC, tOp, tUn, tTest, tAnd, tIfS, tRet, tDrop, tLst, tTup, tCall, rI, rI0, rU, rEq, rIxL, rIxT, L2.start, truV_int, truV_bl, scal_int, scal_bl, List.map_cons, List.map_nil, List.length_cons, List.length_nil, List.replicate, List.cons_append, List.nil_append, List.append_nil, Option.some.injEq, exists_eq_left', exists_eq_left, exists_and_left, List.cons.injEq, V.int.injEq, V.ref.injEq, V.bl.injEq, and_true, true_and, List.set_cons_zero, List.set_cons_succ, Nat.reduceAdd, Nat.reduceSub, Int.reduceToNat, Int.reducePow, Int.reduceNeg, Int.reduceMul, Int.reduceAdd, Int.reduceSub, decide_eq_true_eq, Bool.not_eq_true', decide_eq_false_iff_not, exists_const, and_assoc, exists_eq, exists_eq', if_true, if_false, Bool.false_eq_true, Bool.true_eq_false, reduceCtorEq, not_true_eq_false, not_false_eq_true]
    refine ⟨_, SqT.of (s _ _ hr0), _, rfl, _, hD1, small1000 (by rw [List.length_map, List.length_map, List.length_take]; omega), _, upd_same, s.put hD, ?_⟩
    rw [List.take_add_one, er, List.map_append, List.map_append]
    rfl
  · rintro ys σ H1 hD1 ⟨s, rfl, x, rfl⟩
    rw [List.length_map, hT.1, List.take_length] at hD1
    exact q H1 s hD1
theorem dbls_of {cl : Addr} {cs : List Int} (hl : H cl = some (.lst (cs.map V.int))) (ll : cs.length ≤ 1000) {D : Addr} (hD : H D = none) (q : ∀ (H' : Hp), Same H H' → H' D = some (.lst ((cs.map fun v => 2 * v).map V.int)) → Q (.ref D) H') :
    CompIt (Itl K cl) (gName 0) tNoTest (tOp (rI IntMulOk fun i j => .int (i * j)) (tC (.int 2)) (tVar 0)) D Q [none] (L2.upd H D (.lst [])) := by
  refine comp_listF (K := K) (xs := cs.map V.int) (fun j ys σ H' => Same H H' ∧ ys = ((cs.take j).map fun v => 2 * v).map V.int ∧ ∃ x, σ = [x]) ⟨same_new hD _, rfl, _, rfl⟩ ?_ ?_ ?_
  · rintro j ys σ H' _ ⟨s, _⟩
    exact SqL.of (s _ _ hl)
  · rintro j v ys σ H1 hv hD1 ⟨s, rfl, x, rfl⟩
    obtain ⟨t, et, rfl⟩ := map_at hv
    have lj := (List.getElem?_eq_some_iff.mp et).1
    simp only [t__law_told_otherwise_0_eq, rNeE, rSortedD, tDGet, tRev, tComp_eq, rMaxL, rInsert, rNeD, capS, tNoTest, tPart, rAppend, Option.bind_some, Option.bind_none, Option.join_some, Option.map_some, List.getElem?_cons_zero, List.getElem?_cons_succ, rCat, V.str.injEq, V.ty.injEq, tBM, tFor_eq, iRng1, iList, tSeq, tNext, tAsg, gName, gTup, gCons, gNil, tCB, tCons, tNil, tVar, tC, tOp, tUn, tTest, tAnd, tIfS, tRet, tDrop, tLst, tTup, tCall, rI, rI0, rU, rEq, rIxL, rIxT, L2.start, truV_int, truV_bl, scal_int, scal_bl, List.map_cons, List.map_nil, List.length_cons, List.length_nil, List.replicate, List.cons_append, List.nil_append, List.append_nil, Option.some.injEq, exists_eq_left', exists_eq_left, exists_and_left, List.cons.injEq, V.int.injEq, V.ref.injEq, V.bl.injEq, and_true, true_and, List.set_cons_zero, List.set_cons_succ, Nat.reduceAdd, Nat.reduceSub, Int.reduceToNat, Int.reducePow, Int.reduceNeg, Int.reduceMul, Int.reduceAdd, Int.reduceSub, decide_eq_true_eq, Bool.not_eq_true', decide_eq_false_iff_not, exists_const, and_assoc, exists_eq, exists_eq', if_true, if_false, Bool.false_eq_true, Bool.true_eq_false, reduceCtorEq, not_true_eq_false, not_false_eq_true]
    refine ⟨mulL (by decide) (by decide), _, hD1, small1000 (by rw [List.length_map, List.length_map, List.length_take]; omega), _, upd_same, s.put hD, ?_⟩
    rw [List.take_add_one, et, List.map_append, List.map_append]
    rfl
  · rintro ys σ H1 hD1 ⟨s, rfl, x, rfl⟩
    rw [List.length_map, List.take_length] at hD1
    exact q H1 s hD1
theorem costL_len {m : Int} {c : Ct} : (costL m c).length = m.toNat := by
  unfold costL
  rw [List.length_map, List.length_range]
theorem cost_at {m : Int} {c : Ct} {x : Int} (x0 : 0 ≤ x) (x1 : x < m) : atI ((costL m c).map V.int) x = some (.int ((c x).getD 0)) := by
  obtain ⟨k, rfl⟩ : ∃ k : Nat, x = k := ⟨x.toNat, by omega⟩
  refine atI_nat ?_
  unfold costL
  rw [List.getElem?_map, List.getElem?_map, List.getElem?_range (by omega)]
  rfl
def t_law_0 (K : PySem.W.Frag) : TS :=
  (tIfS (tAnd (tTest (tOp rEq (tVar 8) (tC (.str "spread")))) (tTest (tOp (rI0 fun i j => .bl (decide (i < j))) (tOp (rIxL K) (tVar 10) (tOp (rIxT K) (tVar 13) (tC (.int 1)))) (tOp (rI0 fun i j => .int (i + j)) (tOp (rIxL K) (tVar 10) (tOp (rIxT K) (tVar 13) (tC (.int 0)))) (tDGet (tOp (rIxL K) (tVar 2) (tOp (rIxT K) (tVar 13) (tC (.int 0)))) (tOp (rIxT K) (tVar 13) (tC (.int 1)))))))) (tRet (tC (.bl false))) tNext)
theorem t_law_0_eq (K : PySem.W.Frag) (D : Ends) (σ : St) (H : Hp) : t_law_0 K D σ H = (tIfS (tAnd (tTest (tOp rEq (tVar 8) (tC (.str "spread")))) (tTest (tOp (rI0 fun i j => .bl (decide (i < j))) (tOp (rIxL K) (tVar 10) (tOp (rIxT K) (tVar 13) (tC (.int 1)))) (tOp (rI0 fun i j => .int (i + j)) (tOp (rIxL K) (tVar 10) (tOp (rIxT K) (tVar 13) (tC (.int 0)))) (tDGet (tOp (rIxL K) (tVar 2) (tOp (rIxT K) (tVar 13) (tC (.int 0)))) (tOp (rIxT K) (tVar 13) (tC (.int 1)))))))) (tRet (tC (.bl false))) tNext) D σ H := rfl
def t_law_1 (K : PySem.W.Frag) : TS :=
  (tIfS (tTest (tOp (rNeE K) (tComp (iRng1 (tCons (tOp (rIxT K) (tVar 1) (tC (.int 0))) tNil)) (gName 0) (tTest (tOp (rI0 fun i j => .bl (decide (i < j))) (tOp (rIxL K) (tVar 1) (tVar 0)) (tOp (rIxL K) (tVar 2) (tVar 0)))) (tVar 0) [none, some 10, some 7]) (tLst tNil))) (tRet (tC (.bl false))) tNext)
theorem t_law_1_eq (K : PySem.W.Frag) (D : Ends) (σ : St) (H : Hp) : t_law_1 K D σ H = (tIfS (tTest (tOp (rNeE K) (tComp (iRng1 (tCons (tOp (rIxT K) (tVar 1) (tC (.int 0))) tNil)) (gName 0) (tTest (tOp (rI0 fun i j => .bl (decide (i < j))) (tOp (rIxL K) (tVar 1) (tVar 0)) (tOp (rIxL K) (tVar 2) (tVar 0)))) (tVar 0) [none, some 10, some 7]) (tLst tNil))) (tRet (tC (.bl false))) tNext) D σ H := rfl
def t_law_2 (K : PySem.W.Frag) : TS :=
  (tIfS (tTest (tOp (rI0 fun i j => .bl (decide (i ≤ j))) (tCB (rMaxL K) (tCons (tOp rCat (tLst (tCons (tC (.int 1)) tNil)) (tComp (iList K (tOp (rIxT K) (tVar 1) (tC (.int 1)))) (gName 0) tNoTest (tOp (rIxT K) (tVar 0) (tC (.int 2))) [none])) tNil)) (tC (.int 500000)))) (tSeq (tAsg (tTup (tCons (tOp (rIxT K) (tVar 1) (tC (.int 0))) (tCons (tComp (iList K (tOp (rIxT K) (tVar 1) (tC (.int 1)))) (gTup K 3 (gCons (gName 0) (gCons (gName 1) (gCons (gName 2) gNil)))) tNoTest (tTup (tCons (tVar 0) (tCons (tVar 1) (tCons (tOp (rI IntMulOk fun i j => .int (i * j)) (tC (.int 2)) (tVar 2)) tNil)))) [none, none, none]) tNil))) (gName 12))
  (tIfS (tTest (tOp (rNeD K) (tCall spCostsOf [] E0 (tCons (tVar 12) (tCons (tVar 8) (tCons (tCB (fun xs H Q => ∃ p ys, xs = [.ref p] ∧ (SqL K H p ys ∨ SqT K H p ys) ∧ ∀ l, H l = none → Q (.ref l) (upd H l (.lst ys))) (tCons (tVar 9) tNil)) tNil)))) (tComp (iList K (tVar 10)) (gName 0) tNoTest (tOp (rI IntMulOk fun i j => .int (i * j)) (tC (.int 2)) (tVar 0)) [none]))) (tRet (tC (.bl false))) tNext)) tNext)
theorem t_law_2_eq (K : PySem.W.Frag) (D : Ends) (σ : St) (H : Hp) : t_law_2 K D σ H = (tIfS (tTest (tOp (rI0 fun i j => .bl (decide (i ≤ j))) (tCB (rMaxL K) (tCons (tOp rCat (tLst (tCons (tC (.int 1)) tNil)) (tComp (iList K (tOp (rIxT K) (tVar 1) (tC (.int 1)))) (gName 0) tNoTest (tOp (rIxT K) (tVar 0) (tC (.int 2))) [none])) tNil)) (tC (.int 500000)))) (tSeq (tAsg (tTup (tCons (tOp (rIxT K) (tVar 1) (tC (.int 0))) (tCons (tComp (iList K (tOp (rIxT K) (tVar 1) (tC (.int 1)))) (gTup K 3 (gCons (gName 0) (gCons (gName 1) (gCons (gName 2) gNil)))) tNoTest (tTup (tCons (tVar 0) (tCons (tVar 1) (tCons (tOp (rI IntMulOk fun i j => .int (i * j)) (tC (.int 2)) (tVar 2)) tNil)))) [none, none, none]) tNil))) (gName 12))
  (tIfS (tTest (tOp (rNeD K) (tCall spCostsOf [] E0 (tCons (tVar 12) (tCons (tVar 8) (tCons (tCB (fun xs H Q => ∃ p ys, xs = [.ref p] ∧ (SqL K H p ys ∨ SqT K H p ys) ∧ ∀ l, H l = none → Q (.ref l) (upd H l (.lst ys))) (tCons (tVar 9) tNil)) tNil)))) (tComp (iList K (tVar 10)) (gName 0) tNoTest (tOp (rI IntMulOk fun i j => .int (i * j)) (tC (.int 2)) (tVar 0)) [none]))) (tRet (tC (.bl false))) tNext)) tNext) D σ H := rfl
def t_law_3 (K : PySem.W.Frag) : TS :=
  (tIfS (tAnd (tTest (tOp rEq (tVar 8) (tC (.str "walk")))) (tTest (tOp (rNeD K) (tCall spCostsOf [] E0 (tCons (tVar 1) (tCons (tVar 8) (tCons (tVar 4) tNil)))) (tVar 10)))) (tRet (tC (.bl false))) tNext)
theorem t_law_3_eq (K : PySem.W.Frag) (D : Ends) (σ : St) (H : Hp) : t_law_3 K D σ H = (tIfS (tAnd (tTest (tOp rEq (tVar 8) (tC (.str "walk")))) (tTest (tOp (rNeD K) (tCall spCostsOf [] E0 (tCons (tVar 1) (tCons (tVar 8) (tCons (tVar 4) tNil)))) (tVar 10)))) (tRet (tC (.bl false))) tNext) D σ H := rfl
def t_law_4 (K : PySem.W.Frag) : TS :=
  (tIfS (tTest (tOp (rNeD K) (tCall spCostsOf [] E0 (tCons (tVar 11) (tCons (tVar 8) (tCons (tCB (fun xs H Q => ∃ p ys, xs = [.ref p] ∧ (SqL K H p ys ∨ SqT K H p ys) ∧ ∀ l, H l = none → Q (.ref l) (upd H l (.lst ys))) (tCons (tVar 9) tNil)) tNil)))) (tVar 10))) (tRet (tC (.bl false))) tNext)
theorem t_law_4_eq (K : PySem.W.Frag) (D : Ends) (σ : St) (H : Hp) : t_law_4 K D σ H = (tIfS (tTest (tOp (rNeD K) (tCall spCostsOf [] E0 (tCons (tVar 11) (tCons (tVar 8) (tCons (tCB (fun xs H Q => ∃ p ys, xs = [.ref p] ∧ (SqL K H p ys ∨ SqT K H p ys) ∧ ∀ l, H l = none → Q (.ref l) (upd H l (.lst ys))) (tCons (tVar 9) tNil)) tNil)))) (tVar 10))) (tRet (tC (.bl false))) tNext) D σ H := rfl
def t_law_5 (K : PySem.W.Frag) : TS :=
  (tSeq (tCut (tFor (iList K (tCall (spOther K) [] E0 (tCons (tVar 0) (tCons (tVar 1) tNil)))) (gName 11)
  (t_law_4 K)))
  (tSeq (tCut (t_law_3 K))
  (tSeq (tCut (t_law_2 K))
  (tSeq (tCut (t_law_1 K))
  (tFor (iList K (tVar 9)) (gName 13)
  (t_law_0 K))))))
theorem t_law_5_eq (K : PySem.W.Frag) (D : Ends) (σ : St) (H : Hp) : t_law_5 K D σ H = (tSeq (tCut (tFor (iList K (tCall (spOther K) [] E0 (tCons (tVar 0) (tCons (tVar 1) tNil)))) (gName 11)
  (t_law_4 K)))
  (tSeq (tCut (t_law_3 K))
  (tSeq (tCut (t_law_2 K))
  (tSeq (tCut (t_law_1 K))
  (tFor (iList K (tVar 9)) (gName 13)
  (t_law_0 K)))))) D σ H := rfl
def t_law_6 (K : PySem.W.Frag) : TS :=
  (tAsg (tCall spCostsOf [] E0 (tCons (tVar 1) (tCons (tVar 8) (tCons (tCB (fun xs H Q => ∃ p ys, xs = [.ref p] ∧ (SqL K H p ys ∨ SqT K H p ys) ∧ ∀ l, H l = none → Q (.ref l) (upd H l (.lst ys))) (tCons (tVar 9) tNil)) tNil)))) (gName 10))
theorem t_law_6_eq (K : PySem.W.Frag) (D : Ends) (σ : St) (H : Hp) : t_law_6 K D σ H = (tAsg (tCall spCostsOf [] E0 (tCons (tVar 1) (tCons (tVar 8) (tCons (tCB (fun xs H Q => ∃ p ys, xs = [.ref p] ∧ (SqL K H p ys ∨ SqT K H p ys) ∧ ∀ l, H l = none → Q (.ref l) (upd H l (.lst ys))) (tCons (tVar 9) tNil)) tNil)))) (gName 10)) D σ H := rfl
def t_law_7 (K : PySem.W.Frag) : TS :=
  (tSeq (tAsg (tCB rSortedD (tCons (tOp (rIxL K) (tVar 2) (tOp (rIxL K) (tVar 4) (tUn (rU fun i => .int (-i)) (tC (.int 1))))) tNil)) (gName 6))
  (tIfS (tTest (tOp (rI0 fun i j => .bl (decide (j < i))) (tCB (fun xs H Q => ∃ p ys, xs = [.ref p] ∧ (SqL K H p ys ∨ SqT K H p ys) ∧ Q (.int ys.length) H) (tCons (tVar 6) tNil)) (tC (.int 0)))) (tDrop (tBM K "list" rAppend (tVar 4) (tCons (tOp (rIxL K) (tVar 6) (tOp (rI (fun _ j => 0 < j) fun i j => .int (i % j)) (tCall (spMixed K) [] E0 (tCons (tVar 0) (tCons (tOp (rI0 fun i j => .int (i + j)) (tC (.int 411)) (tVar 5)) tNil))) (tCB (fun xs H Q => ∃ p ys, xs = [.ref p] ∧ (SqL K H p ys ∨ SqT K H p ys) ∧ Q (.int ys.length) H) (tCons (tVar 6) tNil)))) tNil))) tNext))
theorem t_law_7_eq (K : PySem.W.Frag) (D : Ends) (σ : St) (H : Hp) : t_law_7 K D σ H = (tSeq (tAsg (tCB rSortedD (tCons (tOp (rIxL K) (tVar 2) (tOp (rIxL K) (tVar 4) (tUn (rU fun i => .int (-i)) (tC (.int 1))))) tNil)) (gName 6))
  (tIfS (tTest (tOp (rI0 fun i j => .bl (decide (j < i))) (tCB (fun xs H Q => ∃ p ys, xs = [.ref p] ∧ (SqL K H p ys ∨ SqT K H p ys) ∧ Q (.int ys.length) H) (tCons (tVar 6) tNil)) (tC (.int 0)))) (tDrop (tBM K "list" rAppend (tVar 4) (tCons (tOp (rIxL K) (tVar 6) (tOp (rI (fun _ j => 0 < j) fun i j => .int (i % j)) (tCall (spMixed K) [] E0 (tCons (tVar 0) (tCons (tOp (rI0 fun i j => .int (i + j)) (tC (.int 411)) (tVar 5)) tNil))) (tCB (fun xs H Q => ∃ p ys, xs = [.ref p] ∧ (SqL K H p ys ∨ SqT K H p ys) ∧ Q (.int ys.length) H) (tCons (tVar 6) tNil)))) tNil))) tNext)) D σ H := rfl
def t_law_8 (K : PySem.W.Frag) : TS :=
  (tSeq (tAsg (tCall spFar [] E0 (tCons (tVar 2) tNil)) (gName 7))
  (tSeq (tFor (iList K (tLst (tCons (tTup (tCons (tC (.str "walk")) (tCons (tVar 3) tNil))) (tCons (tTup (tCons (tC (.str "spread")) (tCons (tCall (spSpread K) [] E0 (tCons (tVar 0) (tCons (tC (.int 320)) (tCons (tVar 2) tNil)))) tNil))) tNil)))) (gTup K 2 (gCons (gName 8) (gCons (gName 9) gNil)))
  (tSeq (tCut (t_law_6 K))
  (t_law_5 K)))
  (tRet (tC (.bl true)))))
theorem t_law_8_eq (K : PySem.W.Frag) (D : Ends) (σ : St) (H : Hp) : t_law_8 K D σ H = (tSeq (tAsg (tCall spFar [] E0 (tCons (tVar 2) tNil)) (gName 7))
  (tSeq (tFor (iList K (tLst (tCons (tTup (tCons (tC (.str "walk")) (tCons (tVar 3) tNil))) (tCons (tTup (tCons (tC (.str "spread")) (tCons (tCall (spSpread K) [] E0 (tCons (tVar 0) (tCons (tC (.int 320)) (tCons (tVar 2) tNil)))) tNil))) tNil)))) (gTup K 2 (gCons (gName 8) (gCons (gName 9) gNil)))
  (tSeq (tCut (t_law_6 K))
  (t_law_5 K)))
  (tRet (tC (.bl true))))) D σ H := rfl
def t_law (K : PySem.W.Frag) : TS :=
  (tSeq (tAsg (tCall (spAnyWeb49 K) [] E0 (tCons (tVar 0) (tCons (tC (.int 0)) tNil))) (gName 1))
  (tSeq (tAsg (tCall spNear [] E0 (tCons (tVar 1) tNil)) (gName 2))
  (tSeq (tAsg (tCall (spWalk K) [] E0 (tCons (tVar 0) (tCons (tC (.int 300)) (tCons (tVar 2) tNil)))) (gName 3))
  (tSeq (tAsg (tCB (fun xs H Q => ∃ p ys, xs = [.ref p] ∧ (SqL K H p ys ∨ SqT K H p ys) ∧ ∀ l, H l = none → Q (.ref l) (upd H l (.lst ys))) (tCons (tVar 3) tNil)) (gName 4))
  (tSeq (tFor (iRng1 (tCons (tOp (rI (fun _ j => 0 < j) fun i j => .int (i % j)) (tCall (spMixed K) [] E0 (tCons (tVar 0) (tCons (tC (.int 410)) tNil))) (tC (.int 7))) tNil)) (gName 5)
  (t_law_7 K))
  (t_law_8 K))))))
theorem rd_law {p : Addr} {ns : List Int} (hS : SqL K H p (ns.map V.int)) (hl : ns.length ≤ 63) (q : ∀ (H' : Hp), Q (.bl true) H') :
    t_law K { nx := fun _ H' => Q .non H', rt := Q } (L2.start ["_law_script", "_law_web_here", "_law_near_here", "_law_walk_here", "_law_longer", "_law_k", "_law_some", "_law_far_here", "_law_kind", "_law_plan", "_law_costs", "_law_other", "_law_twice", "_law_one"] [.ref p]) H := by
  unfold t_law
  simp only [t_law_0_eq, t_law_1_eq, t_law_2_eq, t_law_3_eq, t_law_4_eq, t_law_5_eq, t_law_6_eq, t_law_7_eq, t_law_8_eq, rNeE, rSortedD, tDGet, tComp_eq, rMaxL, rNeD, capS, tNoTest, rAppend, Option.bind_some, Option.bind_none, Option.join_some, Option.map_some, List.getElem?_cons_zero, List.getElem?_cons_succ, rCat, V.str.injEq, V.ty.injEq, tBM, tFor_eq, iRng1, iList, tSeq, tNext, tAsg, gName, gTup, gCons, gNil, tCB, tCons, tNil, tVar, tC, tOp, tUn, tTest, tAnd, tIfS, tRet, tDrop, tLst, tTup, tCall, rI, rI0, rU, rEq, rIxL, rIxT, L2.start, truV_int, truV_bl, scal_int, scal_bl, List.map_cons, List.map_nil, List.length_cons, List.length_nil, List.replicate, List.cons_append, List.nil_append, List.append_nil, Option.some.injEq, exists_eq_left', exists_eq_left, exists_and_left, List.cons.injEq, V.int.injEq, V.ref.injEq, V.bl.injEq, and_true, true_and, List.set_cons_zero, List.set_cons_succ, Nat.reduceAdd, Nat.reduceSub, Int.reduceToNat, Int.reducePow, Int.reduceNeg, Int.reduceMul, Int.reduceAdd, Int.reduceSub, decide_eq_true_eq, Bool.not_eq_true', decide_eq_false_iff_not, exists_const, and_assoc, exists_eq, exists_eq', if_true, if_false, Bool.false_eq_true, Bool.true_eq_false, reduceCtorEq, not_true_eq_false, not_false_eq_true]
  refine ⟨p, ns, 0, rfl, hS, hl, by decide, by decide, fun w rl ts m rs H1 s1 W1 G l80 => ?_⟩
  have m1 := G.m1
  have m60 := G.m60
  have hf : ∀ x y l, sh rs x y = some l → 0 ≤ l := fun x y l e => by have := sh_mem rs G.gr x y l e; omega
  simp only [t_law_0_eq, t_law_1_eq, t_law_2_eq, t_law_3_eq, t_law_4_eq, t_law_5_eq, t_law_6_eq, t_law_7_eq, t_law_8_eq, rNeE, rSortedD, tDGet, tComp_eq, rMaxL, rNeD, capS, tNoTest, rAppend, Option.bind_some, Option.bind_none, Option.join_some, Option.map_some, List.getElem?_cons_zero, List.getElem?_cons_succ, rCat, V.str.injEq, V.ty.injEq, tBM, tFor_eq, iRng1, iList, tSeq, tNext, tAsg, gName, gTup, gCons, gNil, tCB, tCons, tNil, tVar, tC, tOp, tUn, tTest, tAnd, tIfS, tRet, tDrop, tLst, tTup, tCall, rI, rI0, rU, rEq, rIxL, rIxT, L2.start, truV_int, truV_bl, scal_int, scal_bl, List.map_cons, List.map_nil, List.length_cons, List.length_nil, List.replicate, List.cons_append, List.nil_append, List.append_nil, Option.some.injEq, exists_eq_left', exists_eq_left, exists_and_left, List.cons.injEq, V.int.injEq, V.ref.injEq, V.bl.injEq, and_true, true_and, List.set_cons_zero, List.set_cons_succ, Nat.reduceAdd, Nat.reduceSub, Int.reduceToNat, Int.reducePow, Int.reduceNeg, Int.reduceMul, Int.reduceAdd, Int.reduceSub, decide_eq_true_eq, Bool.not_eq_true', decide_eq_false_iff_not, exists_const, and_assoc, exists_eq, exists_eq', if_true, if_false, Bool.false_eq_true, Bool.true_eq_false, reduceCtorEq, not_true_eq_false, not_false_eq_true]
  refine ⟨w, rl, ts, m, rs, rfl, W1, G, fun nl ds H2 s2 N2 => ?_⟩
  simp only [t_law_0_eq, t_law_1_eq, t_law_2_eq, t_law_3_eq, t_law_4_eq, t_law_5_eq, t_law_6_eq, t_law_7_eq, t_law_8_eq, rNeE, rSortedD, tDGet, tComp_eq, rMaxL, rNeD, capS, tNoTest, rAppend, Option.bind_some, Option.bind_none, Option.join_some, Option.map_some, List.getElem?_cons_zero, List.getElem?_cons_succ, rCat, V.str.injEq, V.ty.injEq, tBM, tFor_eq, iRng1, iList, tSeq, tNext, tAsg, gName, gTup, gCons, gNil, tCB, tCons, tNil, tVar, tC, tOp, tUn, tTest, tAnd, tIfS, tRet, tDrop, tLst, tTup, tCall, rI, rI0, rU, rEq, rIxL, rIxT, L2.start, truV_int, truV_bl, scal_int, scal_bl, List.map_cons, List.map_nil, List.length_cons, List.length_nil, List.replicate, List.cons_append, List.nil_append, List.append_nil, Option.some.injEq, exists_eq_left', exists_eq_left, exists_and_left, List.cons.injEq, V.int.injEq, V.ref.injEq, V.bl.injEq, and_true, true_and, List.set_cons_zero, List.set_cons_succ, Nat.reduceAdd, Nat.reduceSub, Int.reduceToNat, Int.reducePow, Int.reduceNeg, Int.reduceMul, Int.reduceAdd, Int.reduceSub, decide_eq_true_eq, Bool.not_eq_true', decide_eq_false_iff_not, exists_const, and_assoc, exists_eq, exists_eq', if_true, if_false, Bool.false_eq_true, Bool.true_eq_false, reduceCtorEq, not_true_eq_false, not_false_eq_true]
  refine ⟨p, nl, ns, 300, ds, m, rs, rfl, (s1.trans s2).seq hS, hl, by decide, by decide, N2, G, fun wk ws H3 s3 hwk Wl lws => ?_⟩
  simp only [t_law_0_eq, t_law_1_eq, t_law_2_eq, t_law_3_eq, t_law_4_eq, t_law_5_eq, t_law_6_eq, t_law_7_eq, t_law_8_eq, rNeE, rSortedD, tDGet, tComp_eq, rMaxL, rNeD, capS, tNoTest, rAppend, Option.bind_some, Option.bind_none, Option.join_some, Option.map_some, List.getElem?_cons_zero, List.getElem?_cons_succ, rCat, V.str.injEq, V.ty.injEq, tBM, tFor_eq, iRng1, iList, tSeq, tNext, tAsg, gName, gTup, gCons, gNil, tCB, tCons, tNil, tVar, tC, tOp, tUn, tTest, tAnd, tIfS, tRet, tDrop, tLst, tTup, tCall, rI, rI0, rU, rEq, rIxL, rIxT, L2.start, truV_int, truV_bl, scal_int, scal_bl, List.map_cons, List.map_nil, List.length_cons, List.length_nil, List.replicate, List.cons_append, List.nil_append, List.append_nil, Option.some.injEq, exists_eq_left', exists_eq_left, exists_and_left, List.cons.injEq, V.int.injEq, V.ref.injEq, V.bl.injEq, and_true, true_and, List.set_cons_zero, List.set_cons_succ, Nat.reduceAdd, Nat.reduceSub, Int.reduceToNat, Int.reducePow, Int.reduceNeg, Int.reduceMul, Int.reduceAdd, Int.reduceSub, decide_eq_true_eq, Bool.not_eq_true', decide_eq_false_iff_not, exists_const, and_assoc, exists_eq, exists_eq', if_true, if_false, Bool.false_eq_true, Bool.true_eq_false, reduceCtorEq, not_true_eq_false, not_false_eq_true]
  have wpos : 0 < ws.length := (List.getElem?_eq_some_iff.mp Wl.first).1
  refine ⟨_, .inl (SqL.of hwk), fun lg hlg => ?_⟩
  have s4 := same_new hlg (.lst (ws.map V.int))
  have h4 : (L2.upd H3 lg (.lst (ws.map V.int))) lg = some (.lst (ws.map V.int)) := upd_same
  generalize L2.upd H3 lg (.lst (ws.map V.int)) = H4 at s4 h4 ⊢
  have s14 := s2.trans (s3.trans s4)
  refine ⟨p, ns, _, rfl, (s1.trans s14).seq hS, hl, by decide, by decide, fun n n0 n1 => ?_⟩
  refine ⟨_, rfl, by decide, by omega, by omega, ?_⟩
  have c0 : 0 ≤ n % 7 := by omega
  have c1 : n % 7 < 7 := by omega
  generalize n % 7 = cnt at c0 c1 ⊢
  refine for_rangeF (fun i σ H' => Same H3 H' ∧ (∃ ext : List Int, H' lg = some (.lst ((ws ++ ext).map V.int)) ∧ WkP rs m (ws ++ ext) ∧ (∀ y ∈ ext, 0 ≤ y ∧ y < m) ∧ ext.length ≤ i) ∧ ∃ x5 x6, σ = [some (.ref p), some (.ref w), some (.ref nl), some (.ref wk), some (.ref lg), x5, x6, none, none, none, none, none, none, none]) ⟨s4, ⟨[], by rw [List.append_nil]; exact h4, by rw [List.append_nil]; exact ⟨Wl.first, Wl.ok, Wl.inR G⟩, by simp, Nat.le_refl _⟩, _, _, rfl⟩ ?_ ?_
  · rintro i σ H5 hi ⟨s5, ⟨ext, h5, W5, hr5, le5⟩, x5, x6, rfl⟩
    have s25 := s3.trans s5
    have N5 := N2.same s25
    have pos : 0 < (ws ++ ext).length := by rw [List.length_append]; omega
    have el : (ws ++ ext)[(ws ++ ext).length - 1]? = some ((ws ++ ext)[(ws ++ ext).length - 1]'(by omega)) := List.getElem?_eq_getElem (by omega)
    generalize (ws ++ ext)[(ws ++ ext).length - 1]'(by omega) = la at el
    have laR := W5.inR la (mem_at el)
    obtain ⟨dd, kv2, e1, e2, e3⟩ := N5.at laR.1 laR.2
    obtain ⟨ks, ekk, k64, hks, _⟩ := e3.nbs G
    simp only [t_law_0_eq, t_law_1_eq, t_law_2_eq, t_law_3_eq, t_law_4_eq, t_law_5_eq, t_law_6_eq, t_law_7_eq, t_law_8_eq, rNeE, rSortedD, tDGet, tComp_eq, rMaxL, rNeD, capS, tNoTest, rAppend, Option.bind_some, Option.bind_none, Option.join_some, Option.map_some, List.getElem?_cons_zero, List.getElem?_cons_succ, rCat, V.str.injEq, V.ty.injEq, tBM, tFor_eq, iRng1, iList, tSeq, tNext, tAsg, gName, gTup, gCons, gNil, tCB, tCons, tNil, tVar, tC, tOp, tUn, tTest, tAnd, tIfS, tRet, tDrop, tLst, tTup, tCall, rI, rI0, rU, rEq, rIxL, rIxT, L2.start, truV_int, truV_bl, scal_int, scal_bl, List.map_cons, List.map_nil, List.length_cons, List.length_nil, List.replicate, List.cons_append, List.nil_append, List.append_nil, Option.some.injEq, exists_eq_left', exists_eq_left, exists_and_left, List.cons.injEq, V.int.injEq, V.ref.injEq, V.bl.injEq, and_true, true_and, List.set_cons_zero, List.set_cons_succ, Nat.reduceAdd, Nat.reduceSub, Int.reduceToNat, Int.reducePow, Int.reduceNeg, Int.reduceMul, Int.reduceAdd, Int.reduceSub, decide_eq_true_eq, Bool.not_eq_true', decide_eq_false_iff_not, exists_const, and_assoc, exists_eq, exists_eq', if_true, if_false, Bool.false_eq_true, Bool.true_eq_false, reduceCtorEq, not_true_eq_false, not_false_eq_true]
    refine ⟨_, SqL.of h5, _, at_last el pos, _, _, rfl, SqL.of N5.hl, _, e1, _, rfl, kv2, e2, ks, ekk, k64, fun so ns' hso hperm _ => ?_⟩
    have hns : ∀ y, y ∈ ns' ↔ sh rs la y ≠ none := fun y => by rw [hperm.mem_iff, hks]
    have s6 := same_new hso (.lst (ns'.map V.int))
    have h6 : (L2.upd H5 so (.lst (ns'.map V.int))) so = some (.lst (ns'.map V.int)) := upd_same
    generalize L2.upd H5 so (.lst (ns'.map V.int)) = H6 at s6 h6 ⊢
    refine ⟨_, .inl (SqL.of h6), ?_⟩
    rw [List.length_map]
    have h56 := s6 _ _ h5
    refine ite2 (fun c => ?_) (fun c => ⟨s5.trans s6, ext, h56, W5, hr5, by omega⟩)
    refine ⟨.inl ⟨rfl, _, SqL.of h56⟩, ?_⟩
    refine ⟨p, ns, _, rfl, ((s1.trans s2).trans (s25.trans s6)).seq hS, hl, by omega, by omega, fun n2 n20 n21 => ?_⟩
    refine ⟨_, .inl (SqL.of h6), _, rfl, ?_⟩
    rw [List.length_map]
    have z0 := Int.emod_nonneg n2 (show (ns'.length : Int) ≠ 0 by omega)
    have z1 := Int.emod_lt_of_pos n2 (show 0 < (ns'.length : Int) by omega)
    generalize n2 % (ns'.length : Int) = k at z0 z1
    obtain ⟨v, hv, hv2⟩ := at_int (ns := ns') z0 z1
    have vsh := (hns v).mp (mem_at hv2)
    obtain ⟨l, hl3⟩ := Option.ne_none_iff_exists'.mp vsh
    obtain ⟨_, _, v0, v1, _⟩ := sh_mem rs G.gr _ _ _ hl3
    have big : (10000 : Nat) < sizeLine := by decide
    refine ⟨by omega, _, SqL.of h6, _, hv, _, h56, by rw [List.length_map, List.length_append]; omega, (s5.trans s6).put hlg, ext ++ [v], by rw [upd_same, ← List.append_assoc, List.map_append (l₁ := ws ++ ext)]; rfl, ?_, fun y hy => ?_, by rw [List.length_append]; simp only [List.length_cons, List.length_nil]; omega⟩
    · rw [← List.append_assoc]
      refine W5.app el ⟨fun e a b f1 f2 => ?_⟩ fun y hy => ?_
      · cases e with
        | zero =>
          simp only [List.getElem?_cons_zero, List.getElem?_cons_succ, Option.some.injEq] at f1 f2
          subst f1 f2
          exact vsh
        | succ e => simp at f2
      · have : y = v := by simpa using hy
        subst this
        exact ⟨v0, v1⟩
    · rcases List.mem_append.mp hy with z | z
      · exact hr5 y z
      · have : y = v := by simpa using z
        subst this
        exact ⟨v0, v1⟩
  · rintro σ H5 ⟨s5, ⟨ext, h5, W5, hr5, le5⟩, x5, x6, rfl⟩
    have s25 := s3.trans s5
    have hwk5 := s5 _ _ hwk
    have PL : PlanC H5 rs m "walk" lg (wkC (sh rs) ws (ws.length - 1)).2 := .inl ⟨rfl, ws ++ ext, h5, ⟨W5.first, W5.ok, fun x x0 x1 => List.mem_append_left _ (Wl.all x x0 x1), by rw [List.length_append]; omega⟩, (wkC_on Wl hr5).symm⟩
    simp only [t_law_0_eq, t_law_1_eq, t_law_2_eq, t_law_3_eq, t_law_4_eq, t_law_5_eq, t_law_6_eq, t_law_7_eq, t_law_8_eq, rNeE, rSortedD, tDGet, tComp_eq, rMaxL, rNeD, capS, tNoTest, rAppend, Option.bind_some, Option.bind_none, Option.join_some, Option.map_some, List.getElem?_cons_zero, List.getElem?_cons_succ, rCat, V.str.injEq, V.ty.injEq, tBM, tFor_eq, iRng1, iList, tSeq, tNext, tAsg, gName, gTup, gCons, gNil, tCB, tCons, tNil, tVar, tC, tOp, tUn, tTest, tAnd, tIfS, tRet, tDrop, tLst, tTup, tCall, rI, rI0, rU, rEq, rIxL, rIxT, L2.start, truV_int, truV_bl, scal_int, scal_bl, List.map_cons, List.map_nil, List.length_cons, List.length_nil, List.replicate, List.cons_append, List.nil_append, List.append_nil, Option.some.injEq, exists_eq_left', exists_eq_left, exists_and_left, List.cons.injEq, V.int.injEq, V.ref.injEq, V.bl.injEq, and_true, true_and, List.set_cons_zero, List.set_cons_succ, Nat.reduceAdd, Nat.reduceSub, Int.reduceToNat, Int.reducePow, Int.reduceNeg, Int.reduceMul, Int.reduceAdd, Int.reduceSub, decide_eq_true_eq, Bool.not_eq_true', decide_eq_false_iff_not, exists_const, and_assoc, exists_eq, exists_eq', if_true, if_false, Bool.false_eq_true, Bool.true_eq_false, reduceCtorEq, not_true_eq_false, not_false_eq_true]
    refine ⟨nl, ds, m, rs, rfl, N2.same s25, G, fun fl ls H6 s6 h6 lls far => ?_⟩
    simp only [t_law_0_eq, t_law_1_eq, t_law_2_eq, t_law_3_eq, t_law_4_eq, t_law_5_eq, t_law_6_eq, t_law_7_eq, t_law_8_eq, rNeE, rSortedD, tDGet, tComp_eq, rMaxL, rNeD, capS, tNoTest, rAppend, Option.bind_some, Option.bind_none, Option.join_some, Option.map_some, List.getElem?_cons_zero, List.getElem?_cons_succ, rCat, V.str.injEq, V.ty.injEq, tBM, tFor_eq, iRng1, iList, tSeq, tNext, tAsg, gName, gTup, gCons, gNil, tCB, tCons, tNil, tVar, tC, tOp, tUn, tTest, tAnd, tIfS, tRet, tDrop, tLst, tTup, tCall, rI, rI0, rU, rEq, rIxL, rIxT, L2.start, truV_int, truV_bl, scal_int, scal_bl, List.map_cons, List.map_nil, List.length_cons, List.length_nil, List.replicate, List.cons_append, List.nil_append, List.append_nil, Option.some.injEq, exists_eq_left', exists_eq_left, exists_and_left, List.cons.injEq, V.int.injEq, V.ref.injEq, V.bl.injEq, and_true, true_and, List.set_cons_zero, List.set_cons_succ, Nat.reduceAdd, Nat.reduceSub, Int.reduceToNat, Int.reducePow, Int.reduceNeg, Int.reduceMul, Int.reduceAdd, Int.reduceSub, decide_eq_true_eq, Bool.not_eq_true', decide_eq_false_iff_not, exists_const, and_assoc, exists_eq, exists_eq', if_true, if_false, Bool.false_eq_true, Bool.true_eq_false, reduceCtorEq, not_true_eq_false, not_false_eq_true]
    refine ⟨by decide, fun a1 ha1 => ?_⟩
    have s7 := same_new ha1 (.tup [V.str "walk", V.ref wk])
    have h7 : (L2.upd H6 a1 (.tup [V.str "walk", V.ref wk])) a1 = some (.tup [V.str "walk", V.ref wk]) := upd_same
    generalize L2.upd H6 a1 (.tup [V.str "walk", V.ref wk]) = H7 at s7 h7 ⊢
    have s57 := s6.trans s7
    refine ⟨p, nl, ns, 320, ds, m, rs, rfl, ((s1.trans s2).trans (s25.trans s57)).seq hS, hl, by decide, by decide, N2.same (s25.trans s57), G, fun sp us ps H8 s8 hsp hT S => ?_⟩
    refine ⟨by decide, fun a2 ha2 => ?_⟩
    have s9 := same_new ha2 (.tup [V.str "spread", V.ref sp])
    have h9 : (L2.upd H8 a2 (.tup [V.str "spread", V.ref sp])) a2 = some (.tup [V.str "spread", V.ref sp]) := upd_same
    generalize L2.upd H8 a2 (.tup [V.str "spread", V.ref sp]) = H9 at s9 h9 ⊢
    refine ⟨by decide, fun al hal => ?_⟩
    have sA := same_new hal (.lst [V.ref a1, V.ref a2])
    have hA : (L2.upd H9 al (.lst [V.ref a1, V.ref a2])) al = some (.lst [V.ref a1, V.ref a2]) := upd_same
    generalize L2.upd H9 al (.lst [V.ref a1, V.ref a2]) = HA at sA hA ⊢
    have s5A := s57.trans (s8.trans (s9.trans sA))
    have s2A := s25.trans s5A
    have N10 := N2.same s2A
    have W10 := W1.same (s2.trans s2A)
    have hS10 := (s1.trans (s2.trans s2A)).seq hS
    have fl10 := (s7.trans (s8.trans (s9.trans sA))) _ _ h6
    obtain ⟨kk1, kk2⟩ := S.known hf
    have F1 : PlanF HA rs m "walk" wk lg ls (wkC (sh rs) ws (ws.length - 1)).2 := by
      have p1 : PlanC HA rs m "walk" wk (wkC (sh rs) ws (ws.length - 1)).2 := .inl ⟨rfl, ws, s5A _ _ hwk5, Wl, rfl⟩
      refine ⟨p1, fun _ => PL.same s5A, fun x x0 x1 => ?_, .inl ⟨rfl, ws, s5A _ _ hwk5⟩⟩
      obtain ⟨v, hv⟩ := Option.ne_none_iff_exists'.mp (p1.all x x0 x1)
      obtain ⟨k, hk⟩ := (wkC_wk Wl.first Wl.ok _ (by omega)).2 x v hv
      obtain ⟨u, hu1, hu2⟩ := far k x v hk
      exact ⟨v, u, hv, hu1, hu2⟩
    have F2 : PlanF HA rs m "spread" sp lg ls (spC (sh rs) ps).2 := by
      have s8A := s9.trans sA
      have p1 : PlanC HA rs m "spread" sp (spC (sh rs) ps).2 := .inr ⟨rfl, us, ps, s8A _ _ hsp, hT.same s8A, S, rfl⟩
      refine ⟨p1, fun z => absurd z (by decide +kernel), fun x x0 x1 => ?_, .inr ⟨rfl, us, ps, s8A _ _ hsp, hT.same s8A, kk2⟩⟩
      obtain ⟨v, hv⟩ := Option.ne_none_iff_exists'.mp (p1.all x x0 x1)
      obtain ⟨k, c, hk, hc⟩ := kk1.wk x v hv
      obtain ⟨u, hu1, hu2⟩ := far k x c hk
      exact ⟨v, u, hv, hu1, by omega⟩
    have h17 := (s8.trans (s9.trans sA)) _ _ h7
    have h29 := sA _ _ h9
    clear PL hwk5 h5 W5 hsp hT S kk1 kk2 h6 h7 h9 s5 s6 s7 s8 s9 sA s57 s5A far
    refine ⟨⟨_, SqL.of hA⟩, ?_⟩
    refine for_listF (K := K) (xs := [V.ref a1, V.ref a2]) (fun i σ H' => Same HA H' ∧ ∃ x8 x9 x10 x11 x12 x13, σ = [some (.ref p), some (.ref w), some (.ref nl), some (.ref wk), some (.ref lg), x5, x6, some (.ref fl), x8, x9, x10, x11, x12, x13]) ⟨.refl _, _, _, _, _, _, _, rfl⟩ (fun i σ H' _ h => SqL.of (h.1 _ _ hA)) ?_ ?_
    · rintro i x σ HB hx ⟨sB, x8, x9, x10, x11, x12, x13, rfl⟩
      obtain ⟨t, kd, pl, c, rfl, ht, FB⟩ : ∃ (t : Addr) (kd : Str) (pl : Addr) (c : Ct), x = .ref t ∧ HB t = some (.tup [.str kd, .ref pl]) ∧ PlanF HB rs m kd pl lg ls c := by
        match i, hx with
        | 0, hx => cases hx; exact ⟨a1, _, _, _, rfl, sB _ _ h17, F1.same sB⟩
        | 1, hx => cases hx; exact ⟨a2, _, _, _, rfl, sB _ _ h29, F2.same sB⟩
      have WB := W10.same sB
      have NB := N10.same sB
      have SB := sB.seq hS10
      have flB := sB _ _ fl10
      simp only [t_law_0_eq, t_law_1_eq, t_law_2_eq, t_law_3_eq, t_law_4_eq, t_law_5_eq, t_law_6_eq, t_law_7_eq, t_law_8_eq, rNeE, rSortedD, tDGet, tComp_eq, rMaxL, rNeD, capS, tNoTest, rAppend, Option.bind_some, Option.bind_none, Option.join_some, Option.map_some, List.getElem?_cons_zero, List.getElem?_cons_succ, rCat, V.str.injEq, V.ty.injEq, tBM, tFor_eq, iRng1, iList, tSeq, tNext, tAsg, gName, gTup, gCons, gNil, tCB, tCons, tNil, tVar, tC, tOp, tUn, tTest, tAnd, tIfS, tRet, tDrop, tLst, tTup, tCall, rI, rI0, rU, rEq, rIxL, rIxT, L2.start, truV_int, truV_bl, scal_int, scal_bl, List.map_cons, List.map_nil, List.length_cons, List.length_nil, List.replicate, List.cons_append, List.nil_append, List.append_nil, Option.some.injEq, exists_eq_left', exists_eq_left, exists_and_left, List.cons.injEq, V.int.injEq, V.ref.injEq, V.bl.injEq, and_true, true_and, List.set_cons_zero, List.set_cons_succ, Nat.reduceAdd, Nat.reduceSub, Int.reduceToNat, Int.reducePow, Int.reduceNeg, Int.reduceMul, Int.reduceAdd, Int.reduceSub, decide_eq_true_eq, Bool.not_eq_true', decide_eq_false_iff_not, exists_const, and_assoc, exists_eq, exists_eq', if_true, if_false, Bool.false_eq_true, Bool.true_eq_false, reduceCtorEq, not_true_eq_false, not_false_eq_true]
      obtain ⟨xs, hpl⟩ := FB.pc.isL
      refine ⟨_, SqT.of ht, rfl, _, _, rfl, _, _, rfl, rfl, ?_⟩
      refine ⟨fun σ H' => Same HB H' ∧ ∃ cl, H' cl = some (.lst ((costL m c).map V.int)) ∧ σ = [some (.ref p), some (.ref w), some (.ref nl), some (.ref wk), some (.ref lg), x5, x6, some (.ref fl), some (.str kd), some (.ref pl), some (.ref cl), x11, x12, x13], ?_, ?_⟩
      · simp only [t_law_0_eq, t_law_1_eq, t_law_2_eq, t_law_3_eq, t_law_4_eq, t_law_5_eq, t_law_6_eq, t_law_7_eq, t_law_8_eq, rNeE, rSortedD, tDGet, tComp_eq, rMaxL, rNeD, capS, tNoTest, rAppend, Option.bind_some, Option.bind_none, Option.join_some, Option.map_some, List.getElem?_cons_zero, List.getElem?_cons_succ, rCat, V.str.injEq, V.ty.injEq, tBM, tFor_eq, iRng1, iList, tSeq, tNext, tAsg, gName, gTup, gCons, gNil, tCB, tCons, tNil, tVar, tC, tOp, tUn, tTest, tAnd, tIfS, tRet, tDrop, tLst, tTup, tCall, rI, rI0, rU, rEq, rIxL, rIxT, L2.start, truV_int, truV_bl, scal_int, scal_bl, List.map_cons, List.map_nil, List.length_cons, List.length_nil, List.replicate, List.cons_append, List.nil_append, List.append_nil, Option.some.injEq, exists_eq_left', exists_eq_left, exists_and_left, List.cons.injEq, V.int.injEq, V.ref.injEq, V.bl.injEq, and_true, true_and, List.set_cons_zero, List.set_cons_succ, Nat.reduceAdd, Nat.reduceSub, Int.reduceToNat, Int.reducePow, Int.reduceNeg, Int.reduceMul, Int.reduceAdd, Int.reduceSub, decide_eq_true_eq, Bool.not_eq_true', decide_eq_false_iff_not, exists_const, and_assoc, exists_eq, exists_eq', if_true, if_false, Bool.false_eq_true, Bool.true_eq_false, reduceCtorEq, not_true_eq_false, not_false_eq_true]
        refine ⟨xs, .inl (SqL.of hpl), fun l2 hl2 => ?_⟩
        have sC := same_new hl2 (.lst xs)
        have hC : (L2.upd HB l2 (.lst xs)) l2 = some (.lst xs) := upd_same
        generalize L2.upd HB l2 (.lst xs) = HC at sC hC ⊢
        refine ⟨w, rl, l2, ts, rs, m, kd, c, rfl, WB.same sC, G, (FB.pc.same sC).copy (by rw [hC, sC _ _ hpl]), fun cl HD sD _ hcl => ?_⟩
        exact ⟨sC.trans sD, cl, hcl, rfl⟩
      rintro σ HD ⟨sBD, cl, hcl, rfl⟩
      simp only [t_law_0_eq, t_law_1_eq, t_law_2_eq, t_law_3_eq, t_law_4_eq, t_law_5_eq, t_law_6_eq, t_law_7_eq, t_law_8_eq, rNeE, rSortedD, tDGet, tComp_eq, rMaxL, rNeD, capS, tNoTest, rAppend, Option.bind_some, Option.bind_none, Option.join_some, Option.map_some, List.getElem?_cons_zero, List.getElem?_cons_succ, rCat, V.str.injEq, V.ty.injEq, tBM, tFor_eq, iRng1, iList, tSeq, tNext, tAsg, gName, gTup, gCons, gNil, tCB, tCons, tNil, tVar, tC, tOp, tUn, tTest, tAnd, tIfS, tRet, tDrop, tLst, tTup, tCall, rI, rI0, rU, rEq, rIxL, rIxT, L2.start, truV_int, truV_bl, scal_int, scal_bl, List.map_cons, List.map_nil, List.length_cons, List.length_nil, List.replicate, List.cons_append, List.nil_append, List.append_nil, Option.some.injEq, exists_eq_left', exists_eq_left, exists_and_left, List.cons.injEq, V.int.injEq, V.ref.injEq, V.bl.injEq, and_true, true_and, List.set_cons_zero, List.set_cons_succ, Nat.reduceAdd, Nat.reduceSub, Int.reduceToNat, Int.reducePow, Int.reduceNeg, Int.reduceMul, Int.reduceAdd, Int.reduceSub, decide_eq_true_eq, Bool.not_eq_true', decide_eq_false_iff_not, exists_const, and_assoc, exists_eq, exists_eq', if_true, if_false, Bool.false_eq_true, Bool.true_eq_false, reduceCtorEq, not_true_eq_false, not_false_eq_true]
      refine ⟨fun σ H' => Same HD H' ∧ ∃ x11, σ = [some (.ref p), some (.ref w), some (.ref nl), some (.ref wk), some (.ref lg), x5, x6, some (.ref fl), some (.str kd), some (.ref pl), some (.ref cl), x11, x12, x13], ?_, ?_⟩
      · simp only [t_law_0_eq, t_law_1_eq, t_law_2_eq, t_law_3_eq, t_law_4_eq, t_law_5_eq, t_law_6_eq, t_law_7_eq, t_law_8_eq, rNeE, rSortedD, tDGet, tComp_eq, rMaxL, rNeD, capS, tNoTest, rAppend, Option.bind_some, Option.bind_none, Option.join_some, Option.map_some, List.getElem?_cons_zero, List.getElem?_cons_succ, rCat, V.str.injEq, V.ty.injEq, tBM, tFor_eq, iRng1, iList, tSeq, tNext, tAsg, gName, gTup, gCons, gNil, tCB, tCons, tNil, tVar, tC, tOp, tUn, tTest, tAnd, tIfS, tRet, tDrop, tLst, tTup, tCall, rI, rI0, rU, rEq, rIxL, rIxT, L2.start, truV_int, truV_bl, scal_int, scal_bl, List.map_cons, List.map_nil, List.length_cons, List.length_nil, List.replicate, List.cons_append, List.nil_append, List.append_nil, Option.some.injEq, exists_eq_left', exists_eq_left, exists_and_left, List.cons.injEq, V.int.injEq, V.ref.injEq, V.bl.injEq, and_true, true_and, List.set_cons_zero, List.set_cons_succ, Nat.reduceAdd, Nat.reduceSub, Int.reduceToNat, Int.reducePow, Int.reduceNeg, Int.reduceMul, Int.reduceAdd, Int.reduceSub, decide_eq_true_eq, Bool.not_eq_true', decide_eq_false_iff_not, exists_const, and_assoc, exists_eq, exists_eq', if_true, if_false, Bool.false_eq_true, Bool.true_eq_false, reduceCtorEq, not_true_eq_false, not_false_eq_true]
        refine ⟨p, w, rl, ns, ts, m, rs, rfl, sBD.seq SB, hl, WB.same sBD, G, l80, fun r w1 w2 rl1 rl2 ts1 ts2 rs1 rs2 HE sE hr V1 V2 G1 G2 e1 e2 => ?_⟩
        have sBE := sBD.trans sE
        have FE := FB.same sBE
        have plE := sBE _ _ hpl
        have clE := sE _ _ hcl
        refine ⟨r, rfl, ⟨_, SqL.of hr⟩, ?_⟩
        refine for_listF (K := K) (xs := [V.ref w1, V.ref w2]) (fun j σ H' => Same HE H' ∧ ∃ x11, σ = [some (.ref p), some (.ref w), some (.ref nl), some (.ref wk), some (.ref lg), x5, x6, some (.ref fl), some (.str kd), some (.ref pl), some (.ref cl), x11, x12, x13]) ⟨.refl _, _, rfl⟩ (fun i σ H' _ h => SqL.of (h.1 _ _ hr)) ?_ ?_
        · rintro j x σ HF hx ⟨sF, x11, rfl⟩
          obtain ⟨wj, rlj, tsj, rsj, rfl, Vj, Gj, ej⟩ : ∃ (wj rlj : Addr) (tsj : List Addr) (rsj : List Road), x = .ref wj ∧ WebH HE wj rlj tsj m rsj ∧ GW m rsj ∧ sh rsj = sh rs := by
            match j, hx with
            | 0, hx => cases hx; exact ⟨w1, rl1, ts1, rs1, rfl, V1, G1, e1⟩
            | 1, hx => cases hx; exact ⟨w2, rl2, ts2, rs2, rfl, V2, G2, e2⟩
          simp only [t_law_0_eq, t_law_1_eq, t_law_2_eq, t_law_3_eq, t_law_4_eq, t_law_5_eq, t_law_6_eq, t_law_7_eq, t_law_8_eq, rNeE, rSortedD, tDGet, tComp_eq, rMaxL, rNeD, capS, tNoTest, rAppend, Option.bind_some, Option.bind_none, Option.join_some, Option.map_some, List.getElem?_cons_zero, List.getElem?_cons_succ, rCat, V.str.injEq, V.ty.injEq, tBM, tFor_eq, iRng1, iList, tSeq, tNext, tAsg, gName, gTup, gCons, gNil, tCB, tCons, tNil, tVar, tC, tOp, tUn, tTest, tAnd, tIfS, tRet, tDrop, tLst, tTup, tCall, rI, rI0, rU, rEq, rIxL, rIxT, L2.start, truV_int, truV_bl, scal_int, scal_bl, List.map_cons, List.map_nil, List.length_cons, List.length_nil, List.replicate, List.cons_append, List.nil_append, List.append_nil, Option.some.injEq, exists_eq_left', exists_eq_left, exists_and_left, List.cons.injEq, V.int.injEq, V.ref.injEq, V.bl.injEq, and_true, true_and, List.set_cons_zero, List.set_cons_succ, Nat.reduceAdd, Nat.reduceSub, Int.reduceToNat, Int.reducePow, Int.reduceNeg, Int.reduceMul, Int.reduceAdd, Int.reduceSub, decide_eq_true_eq, Bool.not_eq_true', decide_eq_false_iff_not, exists_const, and_assoc, exists_eq, exists_eq', if_true, if_false, Bool.false_eq_true, Bool.true_eq_false, reduceCtorEq, not_true_eq_false, not_false_eq_true]
          refine ⟨xs, .inl (SqL.of (sF _ _ plE)), fun l3 hl3 => ?_⟩
          have sG := same_new hl3 (.lst xs)
          have hG : (L2.upd HF l3 (.lst xs)) l3 = some (.lst xs) := upd_same
          generalize L2.upd HF l3 (.lst xs) = HG at sG hG ⊢
          have sEG := sF.trans sG
          refine ⟨wj, rlj, l3, tsj, rsj, m, kd, c, rfl, Vj.same sEG, Gj, (((FE.pc.same sEG).copy (by rw [hG, sEG _ _ plE])).other ej), fun c2 HI sI _ hc2 => ?_⟩
          refine ⟨0, by decide, _, .inl ⟨ints_shows hc2, ints_shows ((sEG.trans sI) _ _ clE)⟩, ?_⟩
          exact sEG.trans sI
        · rintro σ HF ⟨sF, x11, rfl⟩
          exact ⟨sE.trans sF, _, rfl⟩
      rintro σ HF ⟨sDF, x11, rfl⟩
      · have sBE := sBD.trans sDF
        have FF := FB.same sBE
        have WF := WB.same sBE
        have NF := NB.same sBE
        have flF := sBE _ _ flB
        have plF := sBE _ _ hpl
        have clF := sDF _ _ hcl
        clear FB WB NB flB hpl hcl
        simp only [t_law_0_eq, t_law_1_eq, t_law_2_eq, t_law_3_eq, t_law_4_eq, t_law_5_eq, t_law_6_eq, t_law_7_eq, t_law_8_eq, rNeE, rSortedD, tDGet, tComp_eq, rMaxL, rNeD, capS, tNoTest, rAppend, Option.bind_some, Option.bind_none, Option.join_some, Option.map_some, List.getElem?_cons_zero, List.getElem?_cons_succ, rCat, V.str.injEq, V.ty.injEq, tBM, tFor_eq, iRng1, iList, tSeq, tNext, tAsg, gName, gTup, gCons, gNil, tCB, tCons, tNil, tVar, tC, tOp, tUn, tTest, tAnd, tIfS, tRet, tDrop, tLst, tTup, tCall, rI, rI0, rU, rEq, rIxL, rIxT, L2.start, truV_int, truV_bl, scal_int, scal_bl, List.map_cons, List.map_nil, List.length_cons, List.length_nil, List.replicate, List.cons_append, List.nil_append, List.append_nil, Option.some.injEq, exists_eq_left', exists_eq_left, exists_and_left, List.cons.injEq, V.int.injEq, V.ref.injEq, V.bl.injEq, and_true, true_and, List.set_cons_zero, List.set_cons_succ, Nat.reduceAdd, Nat.reduceSub, Int.reduceToNat, Int.reducePow, Int.reduceNeg, Int.reduceMul, Int.reduceAdd, Int.reduceSub, decide_eq_true_eq, Bool.not_eq_true', decide_eq_false_iff_not, exists_const, and_assoc, exists_eq, exists_eq', if_true, if_false, Bool.false_eq_true, Bool.true_eq_false, reduceCtorEq, not_true_eq_false, not_false_eq_true]
        refine ⟨fun σ H' => Same HF H' ∧ σ = [some (.ref p), some (.ref w), some (.ref nl), some (.ref wk), some (.ref lg), x5, x6, some (.ref fl), some (.str kd), some (.ref pl), some (.ref cl), x11, x12, x13], ?_, ?_⟩
        · simp only [t_law_0_eq, t_law_1_eq, t_law_2_eq, t_law_3_eq, t_law_4_eq, t_law_5_eq, t_law_6_eq, t_law_7_eq, t_law_8_eq, rNeE, rSortedD, tDGet, tComp_eq, rMaxL, rNeD, capS, tNoTest, rAppend, Option.bind_some, Option.bind_none, Option.join_some, Option.map_some, List.getElem?_cons_zero, List.getElem?_cons_succ, rCat, V.str.injEq, V.ty.injEq, tBM, tFor_eq, iRng1, iList, tSeq, tNext, tAsg, gName, gTup, gCons, gNil, tCB, tCons, tNil, tVar, tC, tOp, tUn, tTest, tAnd, tIfS, tRet, tDrop, tLst, tTup, tCall, rI, rI0, rU, rEq, rIxL, rIxT, L2.start, truV_int, truV_bl, scal_int, scal_bl, List.map_cons, List.map_nil, List.length_cons, List.length_nil, List.replicate, List.cons_append, List.nil_append, List.append_nil, Option.some.injEq, exists_eq_left', exists_eq_left, exists_and_left, List.cons.injEq, V.int.injEq, V.ref.injEq, V.bl.injEq, and_true, true_and, List.set_cons_zero, List.set_cons_succ, Nat.reduceAdd, Nat.reduceSub, Int.reduceToNat, Int.reducePow, Int.reduceNeg, Int.reduceMul, Int.reduceAdd, Int.reduceSub, decide_eq_true_eq, Bool.not_eq_true', decide_eq_false_iff_not, exists_const, and_assoc, exists_eq, exists_eq', if_true, if_false, Bool.false_eq_true, Bool.true_eq_false, reduceCtorEq, not_true_eq_false, not_false_eq_true]
          refine ⟨rfl, ite2 (fun ek => ?_) (fun _ => .refl _)⟩
          exact ⟨w, rl, lg, ts, rs, m, kd, c, rfl, WF, G, (by rw [ek]; exact FF.lgr ek), fun c2 HI sI _ hc2 => ⟨0, by decide, _, .inl ⟨ints_shows hc2, ints_shows (sI _ _ clF)⟩, sI⟩⟩
        rintro σ HG ⟨sG, rfl⟩
        have sBG := sBE.trans sG
        simp only [t_law_0_eq, t_law_1_eq, t_law_2_eq, t_law_3_eq, t_law_4_eq, t_law_5_eq, t_law_6_eq, t_law_7_eq, t_law_8_eq, rNeE, rSortedD, tDGet, tComp_eq, rMaxL, rNeD, capS, tNoTest, rAppend, Option.bind_some, Option.bind_none, Option.join_some, Option.map_some, List.getElem?_cons_zero, List.getElem?_cons_succ, rCat, V.str.injEq, V.ty.injEq, tBM, tFor_eq, iRng1, iList, tSeq, tNext, tAsg, gName, gTup, gCons, gNil, tCB, tCons, tNil, tVar, tC, tOp, tUn, tTest, tAnd, tIfS, tRet, tDrop, tLst, tTup, tCall, rI, rI0, rU, rEq, rIxL, rIxT, L2.start, truV_int, truV_bl, scal_int, scal_bl, List.map_cons, List.map_nil, List.length_cons, List.length_nil, List.replicate, List.cons_append, List.nil_append, List.append_nil, Option.some.injEq, exists_eq_left', exists_eq_left, exists_and_left, List.cons.injEq, V.int.injEq, V.ref.injEq, V.bl.injEq, and_true, true_and, List.set_cons_zero, List.set_cons_succ, Nat.reduceAdd, Nat.reduceSub, Int.reduceToNat, Int.reducePow, Int.reduceNeg, Int.reduceMul, Int.reduceAdd, Int.reduceSub, decide_eq_true_eq, Bool.not_eq_true', decide_eq_false_iff_not, exists_const, and_assoc, exists_eq, exists_eq', if_true, if_false, Bool.false_eq_true, Bool.true_eq_false, reduceCtorEq, not_true_eq_false, not_false_eq_true]
        refine ⟨fun σ H' => Same HG H' ∧ ∃ x12, σ = [some (.ref p), some (.ref w), some (.ref nl), some (.ref wk), some (.ref lg), x5, x6, some (.ref fl), some (.str kd), some (.ref pl), some (.ref cl), x11, x12, x13], ?_, ?_⟩
        · simp only [t_law_0_eq, t_law_1_eq, t_law_2_eq, t_law_3_eq, t_law_4_eq, t_law_5_eq, t_law_6_eq, t_law_7_eq, t_law_8_eq, rNeE, rSortedD, tDGet, tComp_eq, rMaxL, rNeD, capS, tNoTest, rAppend, Option.bind_some, Option.bind_none, Option.join_some, Option.map_some, List.getElem?_cons_zero, List.getElem?_cons_succ, rCat, V.str.injEq, V.ty.injEq, tBM, tFor_eq, iRng1, iList, tSeq, tNext, tAsg, gName, gTup, gCons, gNil, tCB, tCons, tNil, tVar, tC, tOp, tUn, tTest, tAnd, tIfS, tRet, tDrop, tLst, tTup, tCall, rI, rI0, rU, rEq, rIxL, rIxT, L2.start, truV_int, truV_bl, scal_int, scal_bl, List.map_cons, List.map_nil, List.length_cons, List.length_nil, List.replicate, List.cons_append, List.nil_append, List.append_nil, Option.some.injEq, exists_eq_left', exists_eq_left, exists_and_left, List.cons.injEq, V.int.injEq, V.ref.injEq, V.bl.injEq, and_true, true_and, List.set_cons_zero, List.set_cons_succ, Nat.reduceAdd, Nat.reduceSub, Int.reduceToNat, Int.reducePow, Int.reduceNeg, Int.reduceMul, Int.reduceAdd, Int.reduceSub, decide_eq_true_eq, Bool.not_eq_true', decide_eq_false_iff_not, exists_const, and_assoc, exists_eq, exists_eq', if_true, if_false, Bool.false_eq_true, Bool.true_eq_false, reduceCtorEq, not_true_eq_false, not_false_eq_true]
          refine ⟨by decide, fun o1 ho1 => ?_⟩
          have sI := same_new ho1 (.lst [V.int 1])
          have hI : (L2.upd HG o1 (.lst [V.int 1])) o1 = some (.lst [V.int 1]) := upd_same
          generalize L2.upd HG o1 (.lst [V.int 1]) = HI at sI hI ⊢
          have WI := WF.same (sG.trans sI)
          refine ⟨_, SqT.of WI.hw, _, rfl, rl, rfl, ⟨_, SqL.of WI.hl⟩, fun D hD => ?_⟩
          refine lens_of WI.hl WI.ht (by omega) hD fun HJ sJ hJ => ?_
          refine ⟨D, rfl, _, sJ _ _ hI, _, hJ, ?_, fun o2 ho2 => ?_⟩
          · have big : (1000 : Nat) < sizeLine := by decide
            rw [List.length_map, List.length_map, List.length_cons, List.length_nil]
            omega
          refine ⟨1 :: rs.map fun r => r.2.2, SqL.of upd_same, by simp, fun mx hmx hall => ?_⟩
          have sL := same_new ho2 (.lst ([V.int 1] ++ (rs.map fun r => r.2.2).map V.int))
          have hL : (L2.upd HJ o2 (.lst ([V.int 1] ++ (rs.map fun r => r.2.2).map V.int))) o2 = some (.lst ([V.int 1] ++ (rs.map fun r => r.2.2).map V.int)) := upd_same
          generalize L2.upd HJ o2 (.lst ([V.int 1] ++ (rs.map fun r => r.2.2).map V.int)) = HL at sL hL ⊢
          have sGL := sI.trans (sJ.trans sL)
          refine ite2 (fun cm => ?_) (fun _ => sGL)
          have half : ∀ r ∈ rs, r.2.2 ≤ 500000 := fun r hr => Int.le_trans (hall _ (List.mem_cons_of_mem _ (List.mem_map.mpr ⟨r, hr, rfl⟩))) cm
          have WL := WI.same (sJ.trans sL)
          refine ⟨_, SqT.of WL.hw, _, rfl, _, SqT.of WL.hw, _, rfl, rl, rfl, ⟨_, SqL.of WL.hl⟩, fun D2 hD2 => ?_⟩
          refine turned_of (f := My.dbl) (g := gName 0) WL.hl WL.ht (by omega) hD2 (fun r σ H2 Q2 e q2 => ?_) fun us2 HM sM hM hU => ?_
          · subst e
            simp only [t_law_0_eq, t_law_1_eq, t_law_2_eq, t_law_3_eq, t_law_4_eq, t_law_5_eq, t_law_6_eq, t_law_7_eq, t_law_8_eq, rNeE, rSortedD, tDGet, tComp_eq, rMaxL, rNeD, capS, tNoTest, rAppend, Option.bind_some, Option.bind_none, Option.join_some, Option.map_some, List.getElem?_cons_zero, List.getElem?_cons_succ, rCat, V.str.injEq, V.ty.injEq, tBM, tFor_eq, iRng1, iList, tSeq, tNext, tAsg, gName, gTup, gCons, gNil, tCB, tCons, tNil, tVar, tC, tOp, tUn, tTest, tAnd, tIfS, tRet, tDrop, tLst, tTup, tCall, rI, rI0, rU, rEq, rIxL, rIxT, L2.start, truV_int, truV_bl, scal_int, scal_bl, List.map_cons, List.map_nil, List.length_cons, List.length_nil, List.replicate, List.cons_append, List.nil_append, List.append_nil, Option.some.injEq, exists_eq_left', exists_eq_left, exists_and_left, List.cons.injEq, V.int.injEq, V.ref.injEq, V.bl.injEq, and_true, true_and, List.set_cons_zero, List.set_cons_succ, Nat.reduceAdd, Nat.reduceSub, Int.reduceToNat, Int.reducePow, Int.reduceNeg, Int.reduceMul, Int.reduceAdd, Int.reduceSub, decide_eq_true_eq, Bool.not_eq_true', decide_eq_false_iff_not, exists_const, and_assoc, exists_eq, exists_eq', if_true, if_false, Bool.false_eq_true, Bool.true_eq_false, reduceCtorEq, not_true_eq_false, not_false_eq_true]
            exact ⟨mulL (by decide) (by decide), by decide, q2⟩
          refine ⟨by decide, fun w3 hw3 => ?_⟩
          have sN := same_new hw3 (.tup [V.int m, V.ref D2])
          have hN : (L2.upd HM w3 (.tup [V.int m, V.ref D2])) w3 = some (.tup [V.int m, V.ref D2]) := upd_same
          generalize L2.upd HM w3 (.tup [V.int m, V.ref D2]) = HN at sN hN ⊢
          have sGN := sGL.trans (sM.trans sN)
          have sFN := sG.trans sGN
          have V3 : WebH HN w3 D2 us2 m (rs.map My.dbl) := ⟨hN, sN _ _ hM, hU.same sN⟩
          have plN := sFN _ _ plF
          refine ⟨xs, .inl (SqL.of plN), fun l4 hl4 => ?_⟩
          have sP := same_new hl4 (.lst xs)
          have hP : (L2.upd HN l4 (.lst xs)) l4 = some (.lst xs) := upd_same
          generalize L2.upd HN l4 (.lst xs) = HP at sP hP ⊢
          refine ⟨w3, D2, l4, us2, rs.map My.dbl, m, kd, dC c, rfl, V3.same sP, G.dbl half, ((FF.same (sFN.trans sP)).pc.dbl).copy (by rw [hP, sP _ _ plN]), fun c2 HR sR _ hc2 => ?_⟩
          have clR := (sFN.trans (sP.trans sR)) _ _ clF
          refine ⟨⟨_, SqL.of clR⟩, fun D3 hD3 => ?_⟩
          refine dbls_of clR (by rw [costL_len]; omega) hD3 fun HS sS hS3 => ?_
          rw [costL_dbl] at hc2
          exact ⟨0, by decide, _, .inl ⟨ints_shows (sS _ _ hc2), ints_shows hS3⟩, sGN.trans (sP.trans (sR.trans sS))⟩
        rintro σ HI ⟨sI, x12, rfl⟩
        simp only [t_law_0_eq, t_law_1_eq, t_law_2_eq, t_law_3_eq, t_law_4_eq, t_law_5_eq, t_law_6_eq, t_law_7_eq, t_law_8_eq, rNeE, rSortedD, tDGet, tComp_eq, rMaxL, rNeD, capS, tNoTest, rAppend, Option.bind_some, Option.bind_none, Option.join_some, Option.map_some, List.getElem?_cons_zero, List.getElem?_cons_succ, rCat, V.str.injEq, V.ty.injEq, tBM, tFor_eq, iRng1, iList, tSeq, tNext, tAsg, gName, gTup, gCons, gNil, tCB, tCons, tNil, tVar, tC, tOp, tUn, tTest, tAnd, tIfS, tRet, tDrop, tLst, tTup, tCall, rI, rI0, rU, rEq, rIxL, rIxT, L2.start, truV_int, truV_bl, scal_int, scal_bl, List.map_cons, List.map_nil, List.length_cons, List.length_nil, List.replicate, List.cons_append, List.nil_append, List.append_nil, Option.some.injEq, exists_eq_left', exists_eq_left, exists_and_left, List.cons.injEq, V.int.injEq, V.ref.injEq, V.bl.injEq, and_true, true_and, List.set_cons_zero, List.set_cons_succ, Nat.reduceAdd, Nat.reduceSub, Int.reduceToNat, Int.reducePow, Int.reduceNeg, Int.reduceMul, Int.reduceAdd, Int.reduceSub, decide_eq_true_eq, Bool.not_eq_true', decide_eq_false_iff_not, exists_const, and_assoc, exists_eq, exists_eq', if_true, if_false, Bool.false_eq_true, Bool.true_eq_false, reduceCtorEq, not_true_eq_false, not_false_eq_true]
        refine ⟨fun σ H' => Same HI H' ∧ σ = [some (.ref p), some (.ref w), some (.ref nl), some (.ref wk), some (.ref lg), x5, x6, some (.ref fl), some (.str kd), some (.ref pl), some (.ref cl), x11, x12, x13], ?_, ?_⟩
        · simp only [t_law_0_eq, t_law_1_eq, t_law_2_eq, t_law_3_eq, t_law_4_eq, t_law_5_eq, t_law_6_eq, t_law_7_eq, t_law_8_eq, rNeE, rSortedD, tDGet, tComp_eq, rMaxL, rNeD, capS, tNoTest, rAppend, Option.bind_some, Option.bind_none, Option.join_some, Option.map_some, List.getElem?_cons_zero, List.getElem?_cons_succ, rCat, V.str.injEq, V.ty.injEq, tBM, tFor_eq, iRng1, iList, tSeq, tNext, tAsg, gName, gTup, gCons, gNil, tCB, tCons, tNil, tVar, tC, tOp, tUn, tTest, tAnd, tIfS, tRet, tDrop, tLst, tTup, tCall, rI, rI0, rU, rEq, rIxL, rIxT, L2.start, truV_int, truV_bl, scal_int, scal_bl, List.map_cons, List.map_nil, List.length_cons, List.length_nil, List.replicate, List.cons_append, List.nil_append, List.append_nil, Option.some.injEq, exists_eq_left', exists_eq_left, exists_and_left, List.cons.injEq, V.int.injEq, V.ref.injEq, V.bl.injEq, and_true, true_and, List.set_cons_zero, List.set_cons_succ, Nat.reduceAdd, Nat.reduceSub, Int.reduceToNat, Int.reducePow, Int.reduceNeg, Int.reduceMul, Int.reduceAdd, Int.reduceSub, decide_eq_true_eq, Bool.not_eq_true', decide_eq_false_iff_not, exists_const, and_assoc, exists_eq, exists_eq', if_true, if_false, Bool.false_eq_true, Bool.true_eq_false, reduceCtorEq, not_true_eq_false, not_false_eq_true]
          have sFI := sG.trans sI
          have WI := WF.same sFI
          have clI := sFI _ _ clF
          have flI := sFI _ _ flF
          refine ⟨_, SqT.of WI.hw, _, rfl, m, rfl, by omega, by omega, fun D hD => ?_⟩
          refine comp_rangeF (fun i ys σ H' => Same HI H' ∧ ys = [] ∧ ∃ x, σ = [x, some (V.ref cl), some (V.ref fl)]) ⟨same_new hD _, rfl, _, rfl⟩ ?_ ?_
          · rintro i ys σ HL hi hDL ⟨s, rfl, x, rfl⟩
            obtain ⟨v, u, hv, hu, le⟩ := FF.far (i : Int) (by omega) (by omega)
            have ac := cost_at (m := m) (c := c) (x := (i : Int)) (by omega) (by omega)
            have af := oV_at (ls := ls) (x := (i : Int)) (by omega) (by omega)
            rw [hv, Option.getD_some] at ac
            rw [hu] at af
            simp only [t_law_0_eq, t_law_1_eq, t_law_2_eq, t_law_3_eq, t_law_4_eq, t_law_5_eq, t_law_6_eq, t_law_7_eq, t_law_8_eq, rNeE, rSortedD, tDGet, tComp_eq, rMaxL, rNeD, capS, tNoTest, rAppend, Option.bind_some, Option.bind_none, Option.join_some, Option.map_some, List.getElem?_cons_zero, List.getElem?_cons_succ, rCat, V.str.injEq, V.ty.injEq, tBM, tFor_eq, iRng1, iList, tSeq, tNext, tAsg, gName, gTup, gCons, gNil, tCB, tCons, tNil, tVar, tC, tOp, tUn, tTest, tAnd, tIfS, tRet, tDrop, tLst, tTup, tCall, rI, rI0, rU, rEq, rIxL, rIxT, L2.start, truV_int, truV_bl, scal_int, scal_bl, List.map_cons, List.map_nil, List.length_cons, List.length_nil, List.replicate, List.cons_append, List.nil_append, List.append_nil, Option.some.injEq, exists_eq_left', exists_eq_left, exists_and_left, List.cons.injEq, V.int.injEq, V.ref.injEq, V.bl.injEq, and_true, true_and, List.set_cons_zero, List.set_cons_succ, Nat.reduceAdd, Nat.reduceSub, Int.reduceToNat, Int.reducePow, Int.reduceNeg, Int.reduceMul, Int.reduceAdd, Int.reduceSub, decide_eq_true_eq, Bool.not_eq_true', decide_eq_false_iff_not, exists_const, and_assoc, exists_eq, exists_eq', if_true, if_false, Bool.false_eq_true, Bool.true_eq_false, reduceCtorEq, not_true_eq_false, not_false_eq_true]
            rw [Int.zero_add]
            exact ⟨_, SqL.of (s _ _ clI), _, ac, _, SqL.of (s _ _ flI), _, af, v, rfl, u, rfl, ite2 (fun z => by omega) (fun _ => ⟨_, hDL, s, rfl⟩)⟩
          · rintro ys σ HL hDL ⟨s, rfl, x, rfl⟩
            refine ⟨by decide, fun o3 ho3 => ?_⟩
            have sM := same_new ho3 (.lst [])
            have hM : (L2.upd HL o3 (.lst [])) o3 = some (.lst []) := upd_same
            generalize L2.upd HL o3 (.lst []) = HM at sM hM ⊢
            refine ⟨D, rfl, _, SqL.of (sM _ _ hDL), SqL.of hM, ?_⟩
            exact ite2 (fun z => absurd z (by decide)) (fun _ => s.trans sM)
        rintro σ HJ ⟨sJ, rfl⟩
        simp only [t_law_0_eq, t_law_1_eq, t_law_2_eq, t_law_3_eq, t_law_4_eq, t_law_5_eq, t_law_6_eq, t_law_7_eq, t_law_8_eq, rNeE, rSortedD, tDGet, tComp_eq, rMaxL, rNeD, capS, tNoTest, rAppend, Option.bind_some, Option.bind_none, Option.join_some, Option.map_some, List.getElem?_cons_zero, List.getElem?_cons_succ, rCat, V.str.injEq, V.ty.injEq, tBM, tFor_eq, iRng1, iList, tSeq, tNext, tAsg, gName, gTup, gCons, gNil, tCB, tCons, tNil, tVar, tC, tOp, tUn, tTest, tAnd, tIfS, tRet, tDrop, tLst, tTup, tCall, rI, rI0, rU, rEq, rIxL, rIxT, L2.start, truV_int, truV_bl, scal_int, scal_bl, List.map_cons, List.map_nil, List.length_cons, List.length_nil, List.replicate, List.cons_append, List.nil_append, List.append_nil, Option.some.injEq, exists_eq_left', exists_eq_left, exists_and_left, List.cons.injEq, V.int.injEq, V.ref.injEq, V.bl.injEq, and_true, true_and, List.set_cons_zero, List.set_cons_succ, Nat.reduceAdd, Nat.reduceSub, Int.reduceToNat, Int.reducePow, Int.reduceNeg, Int.reduceMul, Int.reduceAdd, Int.reduceSub, decide_eq_true_eq, Bool.not_eq_true', decide_eq_false_iff_not, exists_const, and_assoc, exists_eq, exists_eq', if_true, if_false, Bool.false_eq_true, Bool.true_eq_false, reduceCtorEq, not_true_eq_false, not_false_eq_true]
        have sFJ := sG.trans (sI.trans sJ)
        have FJ := FF.same sFJ
        have NJ := NF.same sFJ
        have clJ := sFJ _ _ clF
        have plJ := sFJ _ _ plF
        have sAJ := sB.trans (sBE.trans sFJ)
        refine ⟨⟨_, SqL.of plJ⟩, ?_⟩
        refine for_listF (K := K) (xs := xs) (fun j σ H' => Same HJ H' ∧ ∃ x13, σ = [some (.ref p), some (.ref w), some (.ref nl), some (.ref wk), some (.ref lg), x5, x6, some (.ref fl), some (.str kd), some (.ref pl), some (.ref cl), x11, x12, x13]) ⟨.refl _, _, rfl⟩ (fun i σ H' _ h => SqL.of (h.1 _ _ plJ)) ?_ ?_
        · rintro j x σ HL hx ⟨sL, x13, rfl⟩
          simp only [t_law_0_eq, t_law_1_eq, t_law_2_eq, t_law_3_eq, t_law_4_eq, t_law_5_eq, t_law_6_eq, t_law_7_eq, t_law_8_eq, rNeE, rSortedD, tDGet, tComp_eq, rMaxL, rNeD, capS, tNoTest, rAppend, Option.bind_some, Option.bind_none, Option.join_some, Option.map_some, List.getElem?_cons_zero, List.getElem?_cons_succ, rCat, V.str.injEq, V.ty.injEq, tBM, tFor_eq, iRng1, iList, tSeq, tNext, tAsg, gName, gTup, gCons, gNil, tCB, tCons, tNil, tVar, tC, tOp, tUn, tTest, tAnd, tIfS, tRet, tDrop, tLst, tTup, tCall, rI, rI0, rU, rEq, rIxL, rIxT, L2.start, truV_int, truV_bl, scal_int, scal_bl, List.map_cons, List.map_nil, List.length_cons, List.length_nil, List.replicate, List.cons_append, List.nil_append, List.append_nil, Option.some.injEq, exists_eq_left', exists_eq_left, exists_and_left, List.cons.injEq, V.int.injEq, V.ref.injEq, V.bl.injEq, and_true, true_and, List.set_cons_zero, List.set_cons_succ, Nat.reduceAdd, Nat.reduceSub, Int.reduceToNat, Int.reducePow, Int.reduceNeg, Int.reduceMul, Int.reduceAdd, Int.reduceSub, decide_eq_true_eq, Bool.not_eq_true', decide_eq_false_iff_not, exists_const, and_assoc, exists_eq, exists_eq', if_true, if_false, Bool.false_eq_true, Bool.true_eq_false, reduceCtorEq, not_true_eq_false, not_false_eq_true]
          refine ⟨rfl, ite2 (fun es => ?_) (fun _ => sL)⟩
          rcases FJ.its with ⟨ek, _⟩ | ⟨ek, us', ps', hus, hTs, kn⟩
          · rw [ek] at es
            exact absurd es (by decide +kernel)
          have exs : xs = us'.map V.ref := by rw [plJ] at hus; injection hus with hus; injection hus
          subst exs
          obtain ⟨t', et, rfl⟩ := map_at hx
          obtain ⟨⟨av, bv⟩, er, hr0⟩ := hTs.at et
          obtain ⟨va, vb, l, k1, k2, k3, k4⟩ := kn _ (mem_at er)
          simp only at k1 k2 k3
          obtain ⟨a0, a1', b0, b1, _⟩ := sh_mem rs G.gr _ _ _ k3
          have hr1 := sL _ _ hr0
          have NL := NJ.same sL
          have clL := sL _ _ clJ
          have aa := cost_at (m := m) (c := c) a0 a1'
          have ab := cost_at (m := m) (c := c) b0 b1
          rw [k1, Option.getD_some] at aa
          rw [k2, Option.getD_some] at ab
          obtain ⟨dd, kv2, d1, d2, d3⟩ := NL.at a0 a1'
          have hg := DGet.k (k := .inl bv) d2
          rw [d3.val, k3] at hg
          refine ⟨t', rfl, _, SqT.of hr1, _, rfl, _, bv, rfl, SqL.of clL, _, ab, t', rfl, _, SqT.of hr1, _, rfl, _, av, rfl, SqL.of clL, _, aa, t', rfl, _, SqT.of hr1, _, rfl, _, av, rfl, SqL.of NL.hl, _, d1, t', rfl, _, SqT.of hr1, _, rfl, dd, rfl, _, hg, va, rfl, l, rfl, vb, rfl, ite2 (fun z => by omega) (fun _ => sL)⟩
        · rintro σ HL ⟨sL, x13, rfl⟩
          exact ⟨sAJ.trans sL, _, _, _, _, _, _, rfl⟩
    · rintro σ HB ⟨sB, x8, x9, x10, x11, x12, x13, rfl⟩
      simp only [t_law_0_eq, t_law_1_eq, t_law_2_eq, t_law_3_eq, t_law_4_eq, t_law_5_eq, t_law_6_eq, t_law_7_eq, t_law_8_eq, rNeE, rSortedD, tDGet, tComp_eq, rMaxL, rNeD, capS, tNoTest, rAppend, Option.bind_some, Option.bind_none, Option.join_some, Option.map_some, List.getElem?_cons_zero, List.getElem?_cons_succ, rCat, V.str.injEq, V.ty.injEq, tBM, tFor_eq, iRng1, iList, tSeq, tNext, tAsg, gName, gTup, gCons, gNil, tCB, tCons, tNil, tVar, tC, tOp, tUn, tTest, tAnd, tIfS, tRet, tDrop, tLst, tTup, tCall, rI, rI0, rU, rEq, rIxL, rIxT, L2.start, truV_int, truV_bl, scal_int, scal_bl, List.map_cons, List.map_nil, List.length_cons, List.length_nil, List.replicate, List.cons_append, List.nil_append, List.append_nil, Option.some.injEq, exists_eq_left', exists_eq_left, exists_and_left, List.cons.injEq, V.int.injEq, V.ref.injEq, V.bl.injEq, and_true, true_and, List.set_cons_zero, List.set_cons_succ, Nat.reduceAdd, Nat.reduceSub, Int.reduceToNat, Int.reducePow, Int.reduceNeg, Int.reduceMul, Int.reduceAdd, Int.reduceSub, decide_eq_true_eq, Bool.not_eq_true', decide_eq_false_iff_not, exists_const, and_assoc, exists_eq, exists_eq', if_true, if_false, Bool.false_eq_true, Bool.true_eq_false, reduceCtorEq, not_true_eq_false, not_false_eq_true]
      exact q _
theorem sc_law : FnScope ["_law_script", "_law_web_here", "_law_near_here", "_law_walk_here", "_law_longer", "_law_k", "_law_some", "_law_far_here", "_law_kind", "_law_plan", "_law_costs", "_law_other", "_law_twice", "_law_one"] ["_law_script"] (defScope s_law) := ⟨rfl, rfl, rfl, by decide +kernel, rfl, by decide +kernel, by decide +kernel⟩
theorem ok_law (T : Txt K mg a) : FnOk P w K mg base CX0 6 a.f_law a.d_law ["_law_script"] (spLaw K) := by
  have G__law_any_web := ok__law_any_web (P := P) (w := w) (base := base) T
  have G__law_far := ok__law_far (P := P) (w := w) (base := base) T
  have G__law_mixed := ok__law_mixed (P := P) (w := w) (base := base) T
  have G__law_near := ok__law_near (P := P) (w := w) (base := base) T
  have G__law_spread := ok__law_spread (P := P) (w := w) (base := base) T
  have G__law_told_otherwise := ok__law_told_otherwise (P := P) (w := w) (base := base) T
  have G__law_walk := ok__law_walk (P := P) (w := w) (base := base) T
  have G_costs_of := ok_costs_of (P := P) (w := w) (base := base) T
  refine T.F_law.ok sc_law (fun vs H Q E h => ?_) (fun cdv A outer s H vs Q E hr h => ?_)
  · obtain ⟨p, ns, rfl, hS, hl, q⟩ := h
    rfl
  obtain ⟨p, ns, rfl, hS, hl, q⟩ := h
  exact ⟨t_law K, (pss_cons (ps_set (i := 1) sc_law.nd rfl (Or.inl rfl) (pe_call G__law_any_web (hr.mono (by decide)) rfl T.m__law_any_web T.F__law_any_web.kp T.b__law_any_web .nil pass0 (pa_cons (pv 0) (pa_cons pe_int pa_nil))))
  (pss_cons (ps_set (i := 2) sc_law.nd rfl (Or.inl rfl) (pe_call G__law_near (hr.mono (by decide)) rfl T.m__law_near T.F__law_near.kp T.b__law_near .nil pass0 (pa_cons (pv 1) pa_nil)))
  (pss_cons (ps_set (i := 3) sc_law.nd rfl (Or.inl rfl) (pe_call G__law_walk (hr.mono (by decide)) rfl T.m__law_walk T.F__law_walk.kp T.b__law_walk .nil pass0 (pa_cons (pv 0) (pa_cons pe_int (pa_cons (pv 2) pa_nil)))))
  (pss_cons (ps_set (i := 4) sc_law.nd rfl (Or.inl rfl) (pe_callTy call_list_of rfl T.z_list boot_list (pa_cons (pv 3) pa_nil)))
  (pss_cons (ps_for PassesOwn.never rfl (pi_range1 rfl T.z_range (pa_cons (pe_op op_mod (pe_call G__law_mixed (hr.mono (by decide)) rfl T.m__law_mixed T.F__law_mixed.kp T.b__law_mixed .nil pass0 (pa_cons (pv 0) (pa_cons pe_int pa_nil))) pe_int) pa_nil)) (pg_name (i := 5) sc_law.nd rfl (Or.inl rfl))
  (pss_cons (ps_set (i := 6) sc_law.nd rfl (Or.inl rfl) (pe_callB (call_sortedD rfl) rfl T.z_sorted PyProof.Rows.boot_sorted (pa_cons (pe_ix ix_list (pv 2) (pe_ix ix_list (pv 4) (pe_un un_neg pe_int) (fun _ _ => rfl)) (fun _ _ => rfl)) pa_nil)))
  (pss_one (ps_if (pt_cmpR op_gt (pe_callB call_len_seq rfl T.z_len PySem.boot_len (pa_cons (pv 6) pa_nil)) pe_int (nomark _)) (pss_one (ps_expr (pe_bm PySem.F.plainAttrs_list PySem.F.slot_list_append PySem.F.type_list_append mt_append (pv 4) (pa_cons (pe_ix ix_list (pv 6) (pe_op op_mod (pe_call G__law_mixed (hr.mono (by decide)) rfl T.m__law_mixed T.F__law_mixed.kp T.b__law_mixed .nil pass0 (pa_cons (pv 0) (pa_cons (pe_op op_add pe_int (pv 5)) pa_nil))) (pe_callB call_len_seq rfl T.z_len PySem.boot_len (pa_cons (pv 6) pa_nil))) (fun _ _ => rfl)) pa_nil)))) pss_nil))))
  (pss_cons (ps_set (i := 7) sc_law.nd rfl (Or.inr rfl) (pe_call G__law_far (hr.mono (by decide)) rfl T.m__law_far T.F__law_far.kp T.b__law_far .nil pass0 (pa_cons (pv 2) pa_nil)))
  (pss_cons (ps_for PassesOwn.never rfl (pi_list (pe_lst (pa_cons (pe_tup (pa_cons pe_str (pa_cons (pv 3) pa_nil))) (pa_cons (pe_tup (pa_cons pe_str (pa_cons (pe_call G__law_spread (hr.mono (by decide)) rfl T.m__law_spread T.F__law_spread.kp T.b__law_spread .nil pass0 (pa_cons (pv 0) (pa_cons pe_int (pa_cons (pv 2) pa_nil)))) pa_nil))) pa_nil)))) (pg_tup rfl (pgs_cons (pg_name (i := 8) sc_law.nd rfl (Or.inl rfl)) (pgs_cons (pg_name (i := 9) sc_law.nd rfl (Or.inl rfl)) pgs_nil)))
  (pss_cons (ps_cut (ps_set (i := 10) sc_law.nd rfl (Or.inr rfl) (pe_call G_costs_of (hr.mono (by decide)) rfl T.m_costs_of T.F_costs_of.kp T.b_costs_of .nil pass0 (pa_cons (pv 1) (pa_cons (pv 8) (pa_cons (pe_callTy call_list_of rfl T.z_list boot_list (pa_cons (pv 9) pa_nil)) pa_nil))))))
  (pss_cons (ps_cut (ps_for PassesOwn.never rfl (pi_list (pe_call G__law_told_otherwise (hr.mono (by decide)) rfl T.m__law_told_otherwise T.F__law_told_otherwise.kp T.b__law_told_otherwise .nil pass0 (pa_cons (pv 0) (pa_cons (pv 1) pa_nil)))) (pg_name (i := 11) sc_law.nd rfl (Or.inl rfl))
  (pss_one (ps_if (pt_cmpR (op_neD hr.units) (pe_call G_costs_of (hr.mono (by decide)) rfl T.m_costs_of T.F_costs_of.kp T.b_costs_of .nil pass0 (pa_cons (pv 11) (pa_cons (pv 8) (pa_cons (pe_callTy call_list_of rfl T.z_list boot_list (pa_cons (pv 9) pa_nil)) pa_nil)))) (pv 10) (nomark _)) (pss_one (ps_ret pe_bl)) pss_nil))))
  (pss_cons (ps_cut (ps_if (PW.pt (pw_and (pt_cmpR op_eq (pv 8) pe_str (nomark _)) (pw_and1 (pt_cmpR (op_neD hr.units) (pe_call G_costs_of (hr.mono (by decide)) rfl T.m_costs_of T.F_costs_of.kp T.b_costs_of .nil pass0 (pa_cons (pv 1) (pa_cons (pv 8) (pa_cons (pv 4) pa_nil)))) (pv 10) (nomark _))))) (pss_one (ps_ret pe_bl)) pss_nil))
  (pss_cons (ps_cut (ps_if (pt_cmpR op_le (pe_callB (call_maxL rfl) rfl T.z_max PyProof.Rows.boot_max (pa_cons (pe_op op_cat (pe_lst (pa_cons pe_int pa_nil)) (pe_comp (sc := defScope s_law) (N := ["_law_script", "_law_web_here", "_law_near_here", "_law_walk_here", "_law_longer", "_law_k", "_law_some", "_law_far_here", "_law_kind", "_law_plan", "_law_costs", "_law_other", "_law_twice", "_law_one"]) (Nc := ["_law_road"]) (cap := [none]) rfl rfl rfl (.of (by decide +kernel)) (pi_list (pe_ix ix_tup (pv 1) pe_int (fun _ _ => rfl))) (fun _ _ _ _ => (pg_name (i := 0) (show List.Nodup (["_law_road"] : List Str) from by decide) rfl (Or.inl rfl))) (fun _ _ _ _ => pts_nil) (fun _ _ _ _ => (pe_ix ix_tup (pv 0) pe_int (fun _ _ => rfl))))) pa_nil)) pe_int (nomark _)) (pss_cons (ps_set (i := 12) sc_law.nd rfl (Or.inl rfl) (pe_tup (pa_cons (pe_ix ix_tup (pv 1) pe_int (fun _ _ => rfl)) (pa_cons (pe_comp (sc := defScope s_law) (N := ["_law_script", "_law_web_here", "_law_near_here", "_law_walk_here", "_law_longer", "_law_k", "_law_some", "_law_far_here", "_law_kind", "_law_plan", "_law_costs", "_law_other", "_law_twice", "_law_one"]) (Nc := ["_law_a", "_law_b", "_law_length_here"]) (cap := [none, none, none]) rfl rfl rfl (.of (by decide +kernel)) (pi_list (pe_ix ix_tup (pv 1) pe_int (fun _ _ => rfl))) (fun _ _ _ _ => (pg_tup rfl (pgs_cons (pg_name (i := 0) (show List.Nodup (["_law_a", "_law_b", "_law_length_here"] : List Str) from by decide) rfl (Or.inl rfl)) (pgs_cons (pg_name (i := 1) (show List.Nodup (["_law_a", "_law_b", "_law_length_here"] : List Str) from by decide) rfl (Or.inl rfl)) (pgs_cons (pg_name (i := 2) (show List.Nodup (["_law_a", "_law_b", "_law_length_here"] : List Str) from by decide) rfl (Or.inl rfl)) pgs_nil))))) (fun _ _ _ _ => pts_nil) (fun _ _ _ _ => (pe_tup (pa_cons (pv 0) (pa_cons (pv 1) (pa_cons (pe_op op_mulG pe_int (pv 2)) pa_nil)))))) pa_nil))))
  (pss_one (ps_if (pt_cmpR (op_neD hr.units) (pe_call G_costs_of (hr.mono (by decide)) rfl T.m_costs_of T.F_costs_of.kp T.b_costs_of .nil pass0 (pa_cons (pv 12) (pa_cons (pv 8) (pa_cons (pe_callTy call_list_of rfl T.z_list boot_list (pa_cons (pv 9) pa_nil)) pa_nil)))) (pe_comp (sc := defScope s_law) (N := ["_law_script", "_law_web_here", "_law_near_here", "_law_walk_here", "_law_longer", "_law_k", "_law_some", "_law_far_here", "_law_kind", "_law_plan", "_law_costs", "_law_other", "_law_twice", "_law_one"]) (Nc := ["_law_cost"]) (cap := [none]) rfl rfl rfl (.of (by decide +kernel)) (pi_list (pv 10)) (fun _ _ _ _ => (pg_name (i := 0) (show List.Nodup (["_law_cost"] : List Str) from by decide) rfl (Or.inl rfl))) (fun _ _ _ _ => pts_nil) (fun _ _ _ _ => (pe_op op_mulG pe_int (pv 0)))) (nomark _)) (pss_one (ps_ret pe_bl)) pss_nil))) pss_nil))
  (pss_cons (ps_cut (ps_if (pt_cmpR (op_neE hr.units) (pe_comp (sc := defScope s_law) (N := ["_law_script", "_law_web_here", "_law_near_here", "_law_walk_here", "_law_longer", "_law_k", "_law_some", "_law_far_here", "_law_kind", "_law_plan", "_law_costs", "_law_other", "_law_twice", "_law_one"]) (Nc := ["_law_place", "_law_costs", "_law_far_here"]) (cap := [none, some 10, some 7]) rfl rfl rfl (.of (by decide +kernel)) (pi_range1 rfl T.z_range (pa_cons (pe_ix ix_tup (pv 1) pe_int (fun _ _ => rfl)) pa_nil)) (fun _ _ _ _ => (pg_name (i := 0) (show List.Nodup (["_law_place", "_law_costs", "_law_far_here"] : List Str) from by decide) rfl (Or.inl rfl))) (fun _ _ _ _ => (pts_one (pt_cmpR op_lt (pe_ix ix_list (pv 1) (pv 0) (fun _ _ => rfl)) (pe_ix ix_list (pv 2) (pv 0) (fun _ _ => rfl)) (nomark _)))) (fun _ _ _ _ => (pv 0))) (pe_lst pa_nil) (nomark _)) (pss_one (ps_ret pe_bl)) pss_nil))
  (pss_one (ps_for PassesOwn.never rfl (pi_list (pv 9)) (pg_name (i := 13) sc_law.nd rfl (Or.inl rfl))
  (pss_one (ps_if (PW.pt (pw_and (pt_cmpR op_eq (pv 8) pe_str (nomark _)) (pw_and1 (pt_cmpR op_lt (pe_ix ix_list (pv 10) (pe_ix ix_tup (pv 13) pe_int (fun _ _ => rfl)) (fun _ _ => rfl)) (pe_op op_add (pe_ix ix_list (pv 10) (pe_ix ix_tup (pv 13) pe_int (fun _ _ => rfl)) (fun _ _ => rfl)) (pe_dget (hu_of hr) (pe_ix ix_list (pv 2) (pe_ix ix_tup (pv 13) pe_int (fun _ _ => rfl)) (fun _ _ => rfl)) (pe_ix ix_tup (pv 13) pe_int (fun _ _ => rfl)) (fun _ _ => rfl))) (nomark _))))) (pss_one (ps_ret pe_bl)) pss_nil))))))))))
  (pss_one (ps_ret pe_bl))))))))),
    rd_law hS hl q⟩

end
theorem lst1 {us : List Value} (h : us.length = 1) : ∃ a0, us = [a0] := match us, h with | [a0], _ => ⟨a0, rfl⟩
theorem lst2 {us : List Value} (h : us.length = 2) : ∃ a0, ∃ a1, us = [a0, a1] := match us, h with | [a0, a1], _ => ⟨a0, a1, rfl⟩
theorem lst3 {us : List Value} (h : us.length = 3) : ∃ a0, ∃ a1, ∃ a2, us = [a0, a1, a2] := match us, h with | [a0, a1, a2], _ => ⟨a0, a1, a2, rfl⟩
theorem lst4 {us : List Value} (h : us.length = 4) : ∃ a0, ∃ a1, ∃ a2, ∃ a3, us = [a0, a1, a2, a3] := match us, h with | [a0, a1, a2, a3], _ => ⟨a0, a1, a2, a3, rfl⟩
theorem txt_mk {K : PySem.W.Frag} {h : Heap} {mg : Str → Option Value} (X : K.In h) (G : h.Ns mainGlobals mg)
    {f0 : Addr} {od0 an0 : Option Addr} {sl0 : Array (Option Value)} {oc0 kV0 dc0 pm0 cd0 ct0 : Value}
    (a0 : PySem.W.nsIn K mainGlobals "is_whole" = some (some (.ref f0))) (l0 : K.lookup f0 = some ⟨oc0, od0, .func (PySem.W.fnOf "is_whole" "is_whole" (defArgs s_is_whole) (defBody s_is_whole) (defScope s_is_whole) .none kV0 dc0 pm0 an0 cd0 ct0), sl0⟩) (c0 : PySem.W.codeIn K cd0 "is_whole" = true) (k0 : PySem.W.keepIn K (.ref f0) = true)
    {f1 : Addr} {od1 an1 : Option Addr} {sl1 : Array (Option Value)} {oc1 kV1 dc1 pm1 cd1 ct1 : Value}
    (a1 : PySem.W.nsIn K mainGlobals "is_within" = some (some (.ref f1))) (l1 : K.lookup f1 = some ⟨oc1, od1, .func (PySem.W.fnOf "is_within" "is_within" (defArgs s_is_within) (defBody s_is_within) (defScope s_is_within) .none kV1 dc1 pm1 an1 cd1 ct1), sl1⟩) (c1 : PySem.W.codeIn K cd1 "is_within" = true) (k1 : PySem.W.keepIn K (.ref f1) = true)
    {f2 : Addr} {od2 an2 : Option Addr} {sl2 : Array (Option Value)} {oc2 kV2 dc2 pm2 cd2 ct2 : Value}
    (a2 : PySem.W.nsIn K mainGlobals "is_road" = some (some (.ref f2))) (l2 : K.lookup f2 = some ⟨oc2, od2, .func (PySem.W.fnOf "is_road" "is_road" (defArgs s_is_road) (defBody s_is_road) (defScope s_is_road) .none kV2 dc2 pm2 an2 cd2 ct2), sl2⟩) (c2 : PySem.W.codeIn K cd2 "is_road" = true) (k2 : PySem.W.keepIn K (.ref f2) = true)
    {f3 : Addr} {od3 an3 : Option Addr} {sl3 : Array (Option Value)} {oc3 kV3 dc3 pm3 cd3 ct3 : Value}
    (a3 : PySem.W.nsIn K mainGlobals "places_come_to" = some (some (.ref f3))) (l3 : K.lookup f3 = some ⟨oc3, od3, .func (PySem.W.fnOf "places_come_to" "places_come_to" (defArgs s_places_come_to) (defBody s_places_come_to) (defScope s_places_come_to) .none kV3 dc3 pm3 an3 cd3 ct3), sl3⟩) (c3 : PySem.W.codeIn K cd3 "places_come_to" = true) (k3 : PySem.W.keepIn K (.ref f3) = true)
    {f4 : Addr} {od4 an4 : Option Addr} {sl4 : Array (Option Value)} {oc4 kV4 dc4 pm4 cd4 ct4 : Value}
    (a4 : PySem.W.nsIn K mainGlobals "look_web" = some (some (.ref f4))) (l4 : K.lookup f4 = some ⟨oc4, od4, .func (PySem.W.fnOf "look_web" "look_web" (defArgs s_look_web) (defBody s_look_web) (defScope s_look_web) .none kV4 dc4 pm4 an4 cd4 ct4), sl4⟩) (c4 : PySem.W.codeIn K cd4 "look_web" = true) (k4 : PySem.W.keepIn K (.ref f4) = true)
    {f5 : Addr} {od5 an5 : Option Addr} {sl5 : Array (Option Value)} {oc5 kV5 dc5 pm5 cd5 ct5 : Value}
    (a5 : PySem.W.nsIn K mainGlobals "look_kind" = some (some (.ref f5))) (l5 : K.lookup f5 = some ⟨oc5, od5, .func (PySem.W.fnOf "look_kind" "look_kind" (defArgs s_look_kind) (defBody s_look_kind) (defScope s_look_kind) .none kV5 dc5 pm5 an5 cd5 ct5), sl5⟩) (c5 : PySem.W.codeIn K cd5 "look_kind" = true) (k5 : PySem.W.keepIn K (.ref f5) = true)
    {f6 : Addr} {od6 an6 : Option Addr} {sl6 : Array (Option Value)} {oc6 kV6 dc6 pm6 cd6 ct6 : Value}
    (a6 : PySem.W.nsIn K mainGlobals "shortest_roads" = some (some (.ref f6))) (l6 : K.lookup f6 = some ⟨oc6, od6, .func (PySem.W.fnOf "shortest_roads" "shortest_roads" (defArgs s_shortest_roads) (defBody s_shortest_roads) (defScope s_shortest_roads) .none kV6 dc6 pm6 an6 cd6 ct6), sl6⟩) (c6 : PySem.W.codeIn K cd6 "shortest_roads" = true) (k6 : PySem.W.keepIn K (.ref f6) = true)
    {f7 : Addr} {od7 an7 : Option Addr} {sl7 : Array (Option Value)} {oc7 kV7 dc7 pm7 cd7 ct7 : Value}
    (a7 : PySem.W.nsIn K mainGlobals "is_walk_step" = some (some (.ref f7))) (l7 : K.lookup f7 = some ⟨oc7, od7, .func (PySem.W.fnOf "is_walk_step" "is_walk_step" (defArgs s_is_walk_step) (defBody s_is_walk_step) (defScope s_is_walk_step) .none kV7 dc7 pm7 an7 cd7 ct7), sl7⟩) (c7 : PySem.W.codeIn K cd7 "is_walk_step" = true) (k7 : PySem.W.keepIn K (.ref f7) = true)
    {f8 : Addr} {od8 an8 : Option Addr} {sl8 : Array (Option Value)} {oc8 kV8 dc8 pm8 cd8 ct8 : Value}
    (a8 : PySem.W.nsIn K mainGlobals "walk_costs" = some (some (.ref f8))) (l8 : K.lookup f8 = some ⟨oc8, od8, .func (PySem.W.fnOf "walk_costs" "walk_costs" (defArgs s_walk_costs) (defBody s_walk_costs) (defScope s_walk_costs) .none kV8 dc8 pm8 an8 cd8 ct8), sl8⟩) (c8 : PySem.W.codeIn K cd8 "walk_costs" = true) (k8 : PySem.W.keepIn K (.ref f8) = true)
    {f9 : Addr} {od9 an9 : Option Addr} {sl9 : Array (Option Value)} {oc9 kV9 dc9 pm9 cd9 ct9 : Value}
    (a9 : PySem.W.nsIn K mainGlobals "is_spread_step" = some (some (.ref f9))) (l9 : K.lookup f9 = some ⟨oc9, od9, .func (PySem.W.fnOf "is_spread_step" "is_spread_step" (defArgs s_is_spread_step) (defBody s_is_spread_step) (defScope s_is_spread_step) .none kV9 dc9 pm9 an9 cd9 ct9), sl9⟩) (c9 : PySem.W.codeIn K cd9 "is_spread_step" = true) (k9 : PySem.W.keepIn K (.ref f9) = true)
    {f10 : Addr} {od10 an10 : Option Addr} {sl10 : Array (Option Value)} {oc10 kV10 dc10 pm10 cd10 ct10 : Value}
    (a10 : PySem.W.nsIn K mainGlobals "spread_costs" = some (some (.ref f10))) (l10 : K.lookup f10 = some ⟨oc10, od10, .func (PySem.W.fnOf "spread_costs" "spread_costs" (defArgs s_spread_costs) (defBody s_spread_costs) (defScope s_spread_costs) .none kV10 dc10 pm10 an10 cd10 ct10), sl10⟩) (c10 : PySem.W.codeIn K cd10 "spread_costs" = true) (k10 : PySem.W.keepIn K (.ref f10) = true)
    {f11 : Addr} {od11 an11 : Option Addr} {sl11 : Array (Option Value)} {oc11 kV11 dc11 pm11 cd11 ct11 : Value}
    (a11 : PySem.W.nsIn K mainGlobals "whole_costs" = some (some (.ref f11))) (l11 : K.lookup f11 = some ⟨oc11, od11, .func (PySem.W.fnOf "whole_costs" "whole_costs" (defArgs s_whole_costs) (defBody s_whole_costs) (defScope s_whole_costs) .none kV11 dc11 pm11 an11 cd11 ct11), sl11⟩) (c11 : PySem.W.codeIn K cd11 "whole_costs" = true) (k11 : PySem.W.keepIn K (.ref f11) = true)
    {f12 : Addr} {od12 an12 : Option Addr} {sl12 : Array (Option Value)} {oc12 kV12 dc12 pm12 cd12 ct12 : Value}
    (a12 : PySem.W.nsIn K mainGlobals "costs_of" = some (some (.ref f12))) (l12 : K.lookup f12 = some ⟨oc12, od12, .func (PySem.W.fnOf "costs_of" "costs_of" (defArgs s_costs_of) (defBody s_costs_of) (defScope s_costs_of) .none kV12 dc12 pm12 an12 cd12 ct12), sl12⟩) (c12 : PySem.W.codeIn K cd12 "costs_of" = true) (k12 : PySem.W.keepIn K (.ref f12) = true)
    {f13 : Addr} {od13 an13 : Option Addr} {sl13 : Array (Option Value)} {oc13 kV13 dc13 pm13 cd13 ct13 : Value}
    (a13 : PySem.W.nsIn K mainGlobals "_law_mixed" = some (some (.ref f13))) (l13 : K.lookup f13 = some ⟨oc13, od13, .func (PySem.W.fnOf "_law_mixed" "_law_mixed" (defArgs s__law_mixed) (defBody s__law_mixed) (defScope s__law_mixed) .none kV13 dc13 pm13 an13 cd13 ct13), sl13⟩) (c13 : PySem.W.codeIn K cd13 "_law_mixed" = true) (k13 : PySem.W.keepIn K (.ref f13) = true)
    {f14 : Addr} {od14 an14 : Option Addr} {sl14 : Array (Option Value)} {oc14 kV14 dc14 pm14 cd14 ct14 : Value}
    (a14 : PySem.W.nsIn K mainGlobals "_law_length" = some (some (.ref f14))) (l14 : K.lookup f14 = some ⟨oc14, od14, .func (PySem.W.fnOf "_law_length" "_law_length" (defArgs s__law_length) (defBody s__law_length) (defScope s__law_length) .none kV14 dc14 pm14 an14 cd14 ct14), sl14⟩) (c14 : PySem.W.codeIn K cd14 "_law_length" = true) (k14 : PySem.W.keepIn K (.ref f14) = true)
    {f15 : Addr} {od15 an15 : Option Addr} {sl15 : Array (Option Value)} {oc15 kV15 dc15 pm15 cd15 ct15 : Value}
    (a15 : PySem.W.nsIn K mainGlobals "_law_web" = some (some (.ref f15))) (l15 : K.lookup f15 = some ⟨oc15, od15, .func (PySem.W.fnOf "_law_web" "_law_web" (defArgs s__law_web) (defBody s__law_web) (defScope s__law_web) .none kV15 dc15 pm15 an15 cd15 ct15), sl15⟩) (c15 : PySem.W.codeIn K cd15 "_law_web" = true) (k15 : PySem.W.keepIn K (.ref f15) = true)
    {f16 : Addr} {od16 an16 : Option Addr} {sl16 : Array (Option Value)} {oc16 kV16 dc16 pm16 cd16 ct16 : Value}
    (a16 : PySem.W.nsIn K mainGlobals "_law_any_web" = some (some (.ref f16))) (l16 : K.lookup f16 = some ⟨oc16, od16, .func (PySem.W.fnOf "_law_any_web" "_law_any_web" (defArgs s__law_any_web) (defBody s__law_any_web) (defScope s__law_any_web) .none kV16 dc16 pm16 an16 cd16 ct16), sl16⟩) (c16 : PySem.W.codeIn K cd16 "_law_any_web" = true) (k16 : PySem.W.keepIn K (.ref f16) = true)
    {f17 : Addr} {od17 an17 : Option Addr} {sl17 : Array (Option Value)} {oc17 kV17 dc17 pm17 cd17 ct17 : Value}
    (a17 : PySem.W.nsIn K mainGlobals "_law_near" = some (some (.ref f17))) (l17 : K.lookup f17 = some ⟨oc17, od17, .func (PySem.W.fnOf "_law_near" "_law_near" (defArgs s__law_near) (defBody s__law_near) (defScope s__law_near) .none kV17 dc17 pm17 an17 cd17 ct17), sl17⟩) (c17 : PySem.W.codeIn K cd17 "_law_near" = true) (k17 : PySem.W.keepIn K (.ref f17) = true)
    {f18 : Addr} {od18 an18 : Option Addr} {sl18 : Array (Option Value)} {oc18 kV18 dc18 pm18 cd18 ct18 : Value}
    (a18 : PySem.W.nsIn K mainGlobals "_law_way" = some (some (.ref f18))) (l18 : K.lookup f18 = some ⟨oc18, od18, .func (PySem.W.fnOf "_law_way" "_law_way" (defArgs s__law_way) (defBody s__law_way) (defScope s__law_way) .none kV18 dc18 pm18 an18 cd18 ct18), sl18⟩) (c18 : PySem.W.codeIn K cd18 "_law_way" = true) (k18 : PySem.W.keepIn K (.ref f18) = true)
    {f19 : Addr} {od19 an19 : Option Addr} {sl19 : Array (Option Value)} {oc19 kV19 dc19 pm19 cd19 ct19 : Value}
    (a19 : PySem.W.nsIn K mainGlobals "_law_walk" = some (some (.ref f19))) (l19 : K.lookup f19 = some ⟨oc19, od19, .func (PySem.W.fnOf "_law_walk" "_law_walk" (defArgs s__law_walk) (defBody s__law_walk) (defScope s__law_walk) .none kV19 dc19 pm19 an19 cd19 ct19), sl19⟩) (c19 : PySem.W.codeIn K cd19 "_law_walk" = true) (k19 : PySem.W.keepIn K (.ref f19) = true)
    {f20 : Addr} {od20 an20 : Option Addr} {sl20 : Array (Option Value)} {oc20 kV20 dc20 pm20 cd20 ct20 : Value}
    (a20 : PySem.W.nsIn K mainGlobals "_law_pairs" = some (some (.ref f20))) (l20 : K.lookup f20 = some ⟨oc20, od20, .func (PySem.W.fnOf "_law_pairs" "_law_pairs" (defArgs s__law_pairs) (defBody s__law_pairs) (defScope s__law_pairs) .none kV20 dc20 pm20 an20 cd20 ct20), sl20⟩) (c20 : PySem.W.codeIn K cd20 "_law_pairs" = true) (k20 : PySem.W.keepIn K (.ref f20) = true)
    {f21 : Addr} {od21 an21 : Option Addr} {sl21 : Array (Option Value)} {oc21 kV21 dc21 pm21 cd21 ct21 : Value}
    (a21 : PySem.W.nsIn K mainGlobals "_law_spread" = some (some (.ref f21))) (l21 : K.lookup f21 = some ⟨oc21, od21, .func (PySem.W.fnOf "_law_spread" "_law_spread" (defArgs s__law_spread) (defBody s__law_spread) (defScope s__law_spread) .none kV21 dc21 pm21 an21 cd21 ct21), sl21⟩) (c21 : PySem.W.codeIn K cd21 "_law_spread" = true) (k21 : PySem.W.keepIn K (.ref f21) = true)
    {f22 : Addr} {od22 an22 : Option Addr} {sl22 : Array (Option Value)} {oc22 kV22 dc22 pm22 cd22 ct22 : Value}
    (a22 : PySem.W.nsIn K mainGlobals "_law_far" = some (some (.ref f22))) (l22 : K.lookup f22 = some ⟨oc22, od22, .func (PySem.W.fnOf "_law_far" "_law_far" (defArgs s__law_far) (defBody s__law_far) (defScope s__law_far) .none kV22 dc22 pm22 an22 cd22 ct22), sl22⟩) (c22 : PySem.W.codeIn K cd22 "_law_far" = true) (k22 : PySem.W.keepIn K (.ref f22) = true)
    {f23 : Addr} {od23 an23 : Option Addr} {sl23 : Array (Option Value)} {oc23 kV23 dc23 pm23 cd23 ct23 : Value}
    (a23 : PySem.W.nsIn K mainGlobals "_law_told_otherwise" = some (some (.ref f23))) (l23 : K.lookup f23 = some ⟨oc23, od23, .func (PySem.W.fnOf "_law_told_otherwise" "_law_told_otherwise" (defArgs s__law_told_otherwise) (defBody s__law_told_otherwise) (defScope s__law_told_otherwise) .none kV23 dc23 pm23 an23 cd23 ct23), sl23⟩) (c23 : PySem.W.codeIn K cd23 "_law_told_otherwise" = true) (k23 : PySem.W.keepIn K (.ref f23) = true)
    {f24 : Addr} {od24 an24 : Option Addr} {sl24 : Array (Option Value)} {oc24 kV24 dc24 pm24 cd24 ct24 : Value}
    (a24 : PySem.W.nsIn K mainGlobals "law" = some (some (.ref f24))) (l24 : K.lookup f24 = some ⟨oc24, od24, .func (PySem.W.fnOf "law" "law" (defArgs s_law) (defBody s_law) (defScope s_law) .none kV24 dc24 pm24 an24 cd24 ct24), sl24⟩) (c24 : PySem.W.codeIn K cd24 "law" = true) (k24 : PySem.W.keepIn K (.ref f24) = true)
    (z_list : PySem.W.nsIn K mainGlobals "list" = some none)
    (z_range : PySem.W.nsIn K mainGlobals "range" = some none)
    (z_len : PySem.W.nsIn K mainGlobals "len" = some none)
    (z_isinstance : PySem.W.nsIn K mainGlobals "isinstance" = some none)
    (z_int : PySem.W.nsIn K mainGlobals "int" = some none)
    (z_bool : PySem.W.nsIn K mainGlobals "bool" = some none)
    (z_tuple : PySem.W.nsIn K mainGlobals "tuple" = some none)
    (z_str : PySem.W.nsIn K mainGlobals "str" = some none)
    (z_min : PySem.W.nsIn K mainGlobals "min" = some none)
    (z_enumerate : PySem.W.nsIn K mainGlobals "enumerate" = some none)
    (z_sorted : PySem.W.nsIn K mainGlobals "sorted" = some none)
    (z_set : PySem.W.nsIn K mainGlobals "set" = some none)
    (z_max : PySem.W.nsIn K mainGlobals "max" = some none)
    {k_MOST_PLACES : Tok} (ak_MOST_PLACES : PySem.W.nsIn K mainGlobals "MOST_PLACES" = some (some (.int 60 k_MOST_PLACES)))
    {k_MOST_ROADS : Tok} (ak_MOST_ROADS : PySem.W.nsIn K mainGlobals "MOST_ROADS" = some (some (.int 120 k_MOST_ROADS)))
    {k_MOST_LENGTH : Tok} (ak_MOST_LENGTH : PySem.W.nsIn K mainGlobals "MOST_LENGTH" = some (some (.int 1000000 k_MOST_LENGTH)))
    {t_KINDS : Addr} (at_KINDS : PySem.W.nsIn K mainGlobals "KINDS" = some (some (.ref t_KINDS))) {tk0_KINDS : Tok} {tk1_KINDS : Tok} {od_KINDS : Option Addr} {n_KINDS : Nat} {sl_KINDS : Array (Option Value)} (lt_KINDS : K.lookup t_KINDS = some ⟨.type "tuple", od_KINDS, .seq #[.str "walk" tk0_KINDS, .str "spread" tk1_KINDS] n_KINDS, sl_KINDS⟩)
    : Txt K mg ⟨f0, PySem.W.fnOf "is_whole" "is_whole" (defArgs s_is_whole) (defBody s_is_whole) (defScope s_is_whole) .none kV0 dc0 pm0 an0 cd0 ct0, f1, PySem.W.fnOf "is_within" "is_within" (defArgs s_is_within) (defBody s_is_within) (defScope s_is_within) .none kV1 dc1 pm1 an1 cd1 ct1, f2, PySem.W.fnOf "is_road" "is_road" (defArgs s_is_road) (defBody s_is_road) (defScope s_is_road) .none kV2 dc2 pm2 an2 cd2 ct2, f3, PySem.W.fnOf "places_come_to" "places_come_to" (defArgs s_places_come_to) (defBody s_places_come_to) (defScope s_places_come_to) .none kV3 dc3 pm3 an3 cd3 ct3, f4, PySem.W.fnOf "look_web" "look_web" (defArgs s_look_web) (defBody s_look_web) (defScope s_look_web) .none kV4 dc4 pm4 an4 cd4 ct4, f5, PySem.W.fnOf "look_kind" "look_kind" (defArgs s_look_kind) (defBody s_look_kind) (defScope s_look_kind) .none kV5 dc5 pm5 an5 cd5 ct5, f6, PySem.W.fnOf "shortest_roads" "shortest_roads" (defArgs s_shortest_roads) (defBody s_shortest_roads) (defScope s_shortest_roads) .none kV6 dc6 pm6 an6 cd6 ct6, f7, PySem.W.fnOf "is_walk_step" "is_walk_step" (defArgs s_is_walk_step) (defBody s_is_walk_step) (defScope s_is_walk_step) .none kV7 dc7 pm7 an7 cd7 ct7, f8, PySem.W.fnOf "walk_costs" "walk_costs" (defArgs s_walk_costs) (defBody s_walk_costs) (defScope s_walk_costs) .none kV8 dc8 pm8 an8 cd8 ct8, f9, PySem.W.fnOf "is_spread_step" "is_spread_step" (defArgs s_is_spread_step) (defBody s_is_spread_step) (defScope s_is_spread_step) .none kV9 dc9 pm9 an9 cd9 ct9, f10, PySem.W.fnOf "spread_costs" "spread_costs" (defArgs s_spread_costs) (defBody s_spread_costs) (defScope s_spread_costs) .none kV10 dc10 pm10 an10 cd10 ct10, f11, PySem.W.fnOf "whole_costs" "whole_costs" (defArgs s_whole_costs) (defBody s_whole_costs) (defScope s_whole_costs) .none kV11 dc11 pm11 an11 cd11 ct11, f12, PySem.W.fnOf "costs_of" "costs_of" (defArgs s_costs_of) (defBody s_costs_of) (defScope s_costs_of) .none kV12 dc12 pm12 an12 cd12 ct12, f13, PySem.W.fnOf "_law_mixed" "_law_mixed" (defArgs s__law_mixed) (defBody s__law_mixed) (defScope s__law_mixed) .none kV13 dc13 pm13 an13 cd13 ct13, f14, PySem.W.fnOf "_law_length" "_law_length" (defArgs s__law_length) (defBody s__law_length) (defScope s__law_length) .none kV14 dc14 pm14 an14 cd14 ct14, f15, PySem.W.fnOf "_law_web" "_law_web" (defArgs s__law_web) (defBody s__law_web) (defScope s__law_web) .none kV15 dc15 pm15 an15 cd15 ct15, f16, PySem.W.fnOf "_law_any_web" "_law_any_web" (defArgs s__law_any_web) (defBody s__law_any_web) (defScope s__law_any_web) .none kV16 dc16 pm16 an16 cd16 ct16, f17, PySem.W.fnOf "_law_near" "_law_near" (defArgs s__law_near) (defBody s__law_near) (defScope s__law_near) .none kV17 dc17 pm17 an17 cd17 ct17, f18, PySem.W.fnOf "_law_way" "_law_way" (defArgs s__law_way) (defBody s__law_way) (defScope s__law_way) .none kV18 dc18 pm18 an18 cd18 ct18, f19, PySem.W.fnOf "_law_walk" "_law_walk" (defArgs s__law_walk) (defBody s__law_walk) (defScope s__law_walk) .none kV19 dc19 pm19 an19 cd19 ct19, f20, PySem.W.fnOf "_law_pairs" "_law_pairs" (defArgs s__law_pairs) (defBody s__law_pairs) (defScope s__law_pairs) .none kV20 dc20 pm20 an20 cd20 ct20, f21, PySem.W.fnOf "_law_spread" "_law_spread" (defArgs s__law_spread) (defBody s__law_spread) (defScope s__law_spread) .none kV21 dc21 pm21 an21 cd21 ct21, f22, PySem.W.fnOf "_law_far" "_law_far" (defArgs s__law_far) (defBody s__law_far) (defScope s__law_far) .none kV22 dc22 pm22 an22 cd22 ct22, f23, PySem.W.fnOf "_law_told_otherwise" "_law_told_otherwise" (defArgs s__law_told_otherwise) (defBody s__law_told_otherwise) (defScope s__law_told_otherwise) .none kV23 dc23 pm23 an23 cd23 ct23, f24, PySem.W.fnOf "law" "law" (defArgs s_law) (defBody s_law) (defScope s_law) .none kV24 dc24 pm24 an24 cd24 ct24, k_MOST_PLACES, k_MOST_ROADS, k_MOST_LENGTH, t_KINDS⟩ := by
  have F0 := fun_mk (st := s_is_whole) l0 c0 k0
  have b0 := F0.binds (ps := ["thing"]) fun _ _ _ _ _ _ us hl => by obtain ⟨_, rfl⟩ := lst1 hl; rfl
  have F1 := fun_mk (st := s_is_within) l1 c1 k1
  have b1 := F1.binds (ps := ["thing", "least", "most"]) fun _ _ _ _ _ _ us hl => by obtain ⟨_, _, _, rfl⟩ := lst3 hl; rfl
  have F2 := fun_mk (st := s_is_road) l2 c2 k2
  have b2 := F2.binds (ps := ["thing", "many"]) fun _ _ _ _ _ _ us hl => by obtain ⟨_, _, rfl⟩ := lst2 hl; rfl
  have F3 := fun_mk (st := s_places_come_to) l3 c3 k3
  have b3 := F3.binds (ps := ["roads"]) fun _ _ _ _ _ _ us hl => by obtain ⟨_, rfl⟩ := lst1 hl; rfl
  have F4 := fun_mk (st := s_look_web) l4 c4 k4
  have b4 := F4.binds (ps := ["web"]) fun _ _ _ _ _ _ us hl => by obtain ⟨_, rfl⟩ := lst1 hl; rfl
  have F5 := fun_mk (st := s_look_kind) l5 c5 k5
  have b5 := F5.binds (ps := ["kind"]) fun _ _ _ _ _ _ us hl => by obtain ⟨_, rfl⟩ := lst1 hl; rfl
  have F6 := fun_mk (st := s_shortest_roads) l6 c6 k6
  have b6 := F6.binds (ps := ["web"]) fun _ _ _ _ _ _ us hl => by obtain ⟨_, rfl⟩ := lst1 hl; rfl
  have F7 := fun_mk (st := s_is_walk_step) l7 c7 k7
  have b7 := F7.binds (ps := ["lengths", "plan", "k"]) fun _ _ _ _ _ _ us hl => by obtain ⟨_, _, _, rfl⟩ := lst3 hl; rfl
  have F8 := fun_mk (st := s_walk_costs) l8 c8 k8
  have b8 := F8.binds (ps := ["lengths", "plan"]) fun _ _ _ _ _ _ us hl => by obtain ⟨_, _, rfl⟩ := lst2 hl; rfl
  have F9 := fun_mk (st := s_is_spread_step) l9 c9 k9
  have b9 := F9.binds (ps := ["lengths", "costs", "step"]) fun _ _ _ _ _ _ us hl => by obtain ⟨_, _, _, rfl⟩ := lst3 hl; rfl
  have F10 := fun_mk (st := s_spread_costs) l10 c10 k10
  have b10 := F10.binds (ps := ["lengths", "plan"]) fun _ _ _ _ _ _ us hl => by obtain ⟨_, _, rfl⟩ := lst2 hl; rfl
  have F11 := fun_mk (st := s_whole_costs) l11 c11 k11
  have b11 := F11.binds (ps := ["many", "lengths", "kind", "plan"]) fun _ _ _ _ _ _ us hl => by obtain ⟨_, _, _, _, rfl⟩ := lst4 hl; rfl
  have F12 := fun_mk (st := s_costs_of) l12 c12 k12
  have b12 := F12.binds (ps := ["web", "kind", "plan"]) fun _ _ _ _ _ _ us hl => by obtain ⟨_, _, _, rfl⟩ := lst3 hl; rfl
  have F13 := fun_mk (st := s__law_mixed) l13 c13 k13
  have b13 := F13.binds (ps := ["_law_script", "_law_k"]) fun _ _ _ _ _ _ us hl => by obtain ⟨_, _, rfl⟩ := lst2 hl; rfl
  have F14 := fun_mk (st := s__law_length) l14 c14 k14
  have b14 := F14.binds (ps := ["_law_number"]) fun _ _ _ _ _ _ us hl => by obtain ⟨_, rfl⟩ := lst1 hl; rfl
  have F15 := fun_mk (st := s__law_web) l15 c15 k15
  have b15 := F15.binds (ps := ["_law_script", "_law_start", "_law_most", "_law_extra"]) fun _ _ _ _ _ _ us hl => by obtain ⟨_, _, _, _, rfl⟩ := lst4 hl; rfl
  have F16 := fun_mk (st := s__law_any_web) l16 c16 k16
  have b16 := F16.binds (ps := ["_law_script", "_law_start"]) fun _ _ _ _ _ _ us hl => by obtain ⟨_, _, rfl⟩ := lst2 hl; rfl
  have F17 := fun_mk (st := s__law_near) l17 c17 k17
  have b17 := F17.binds (ps := ["_law_web_here"]) fun _ _ _ _ _ _ us hl => by obtain ⟨_, rfl⟩ := lst1 hl; rfl
  have F18 := fun_mk (st := s__law_way) l18 c18 k18
  have b18 := F18.binds (ps := ["_law_near_here", "_law_start", "_law_come"]) fun _ _ _ _ _ _ us hl => by obtain ⟨_, _, _, rfl⟩ := lst3 hl; rfl
  have F19 := fun_mk (st := s__law_walk) l19 c19 k19
  have b19 := F19.binds (ps := ["_law_script", "_law_start", "_law_near_here"]) fun _ _ _ _ _ _ us hl => by obtain ⟨_, _, _, rfl⟩ := lst3 hl; rfl
  have F20 := fun_mk (st := s__law_pairs) l20 c20 k20
  have b20 := F20.binds (ps := ["_law_near_here"]) fun _ _ _ _ _ _ us hl => by obtain ⟨_, rfl⟩ := lst1 hl; rfl
  have F21 := fun_mk (st := s__law_spread) l21 c21 k21
  have b21 := F21.binds (ps := ["_law_script", "_law_start", "_law_near_here"]) fun _ _ _ _ _ _ us hl => by obtain ⟨_, _, _, rfl⟩ := lst3 hl; rfl
  have F22 := fun_mk (st := s__law_far) l22 c22 k22
  have b22 := F22.binds (ps := ["_law_near_here"]) fun _ _ _ _ _ _ us hl => by obtain ⟨_, rfl⟩ := lst1 hl; rfl
  have F23 := fun_mk (st := s__law_told_otherwise) l23 c23 k23
  have b23 := F23.binds (ps := ["_law_script", "_law_web_here"]) fun _ _ _ _ _ _ us hl => by obtain ⟨_, _, rfl⟩ := lst2 hl; rfl
  have F24 := fun_mk (st := s_law) l24 c24 k24
  have b24 := F24.binds (ps := ["_law_script"]) fun _ _ _ _ _ _ us hl => by obtain ⟨_, rfl⟩ := lst1 hl; rfl
  exact ⟨F0, b0, PySem.W.mg_of X G a0, F1, b1, PySem.W.mg_of X G a1, F2, b2, PySem.W.mg_of X G a2, F3, b3, PySem.W.mg_of X G a3, F4, b4, PySem.W.mg_of X G a4, F5, b5, PySem.W.mg_of X G a5, F6, b6, PySem.W.mg_of X G a6, F7, b7, PySem.W.mg_of X G a7, F8, b8, PySem.W.mg_of X G a8, F9, b9, PySem.W.mg_of X G a9, F10, b10, PySem.W.mg_of X G a10, F11, b11, PySem.W.mg_of X G a11, F12, b12, PySem.W.mg_of X G a12, F13, b13, PySem.W.mg_of X G a13, F14, b14, PySem.W.mg_of X G a14, F15, b15, PySem.W.mg_of X G a15, F16, b16, PySem.W.mg_of X G a16, F17, b17, PySem.W.mg_of X G a17, F18, b18, PySem.W.mg_of X G a18, F19, b19, PySem.W.mg_of X G a19, F20, b20, PySem.W.mg_of X G a20, F21, b21, PySem.W.mg_of X G a21, F22, b22, PySem.W.mg_of X G a22, F23, b23, PySem.W.mg_of X G a23, F24, b24, PySem.W.mg_of X G a24, PySem.W.mg_none_of X G z_list, PySem.W.mg_none_of X G z_range, PySem.W.mg_none_of X G z_len, PySem.W.mg_none_of X G z_isinstance, PySem.W.mg_none_of X G z_int, PySem.W.mg_none_of X G z_bool, PySem.W.mg_none_of X G z_tuple, PySem.W.mg_none_of X G z_str, PySem.W.mg_none_of X G z_min, PySem.W.mg_none_of X G z_enumerate, PySem.W.mg_none_of X G z_sorted, PySem.W.mg_none_of X G z_set, PySem.W.mg_none_of X G z_max, PySem.W.mg_of X G ak_MOST_PLACES, PySem.W.mg_of X G ak_MOST_ROADS, PySem.W.mg_of X G ak_MOST_LENGTH, PySem.W.mg_of X G at_KINDS, ⟨_, _, _, lt_KINDS, rfl, rfl, (show 2 ≤ sizeLine by decide), (.cons ⟨_, rfl⟩ (.cons ⟨_, rfl⟩ .nil))⟩⟩

theorem all_mk {K : PySem.W.Frag} {w : World} {mg : Str → Option Value} {h : Heap} {fa : Addr} {P : Program} (X : K.In h) (G : h.Ns mainGlobals mg) (hfa : mg "law" = some (.ref fa)) {a : Ad} (T : Txt K mg a) :
    ∃ fd : FuncData, (∀ (s : Shared) (u : Value), BindsTo s fd ⟨[u], []⟩ [("_law_script", u)]) ∧ ∀ base : Heap, K.In base → base.Ns mainGlobals mg → FnOk P w K mg base CX0 6 fa fd ["_law_script"] (spLaw K) := by
  have e := hfa.symm.trans T.m_law
  cases e
  refine ⟨a.d_law, fun s v => ?_, fun base _ _ => ok_law T⟩
  obtain ⟨oc, od, kV, doc, pm, an, cdv, ct, osl, e, lk, hcd⟩ := T.F_law.ex
  rw [e]
  exact .of_eq rfl
theorem walk {l : PySem.W.OpenLaw} {q : Program} {loose : List Str} {XP : (Str → Option Value) → Heap → Prop} {YP : World → Heap → Prop} {d : DefRec} {K : Params → PySem.W.Frag} (hn : l.most = some 63) (hdf : d.params.defaults = [])
    (hY : ∀ (w : World) (h : Heap), YP w h → (K w.params).In h)
    (F : ∀ (w : World) (mg : Str → Option Value) (fa : Addr) (h : Heap), (K w.params).In h → h.Ns mainGlobals mg → mg d.name = some (.ref fa) →
      ∃ fd : FuncData, (∀ (s : Shared) (u : Value), BindsTo s fd ⟨[u], []⟩ [("_law_script", u)]) ∧ ∀ base : Heap, (K w.params).In base → base.Ns mainGlobals mg → FnOk l.prog w (K w.params) mg base CX0 6 fa fd ["_law_script"] (spLaw (K w.params))) :
    PySem.W.WalkO q loose XP YP l.row.toRowW d [] (fun f vs => PySem.call f vs) :=
  L2.walk_of (n := 63) (k := 6) (x := "_law_script") (CX := fun _ => CX0) (sp := fun w => spLaw (K w.params)) hn (by decide) hdf ⟨rfl, by decide, by decide⟩ hY F (fun _ _ a ns hl _ hS => ⟨a, ns, rfl, hS, hl, fun _ => rfl⟩) fun _ _ _ _ _ z => z
end My
open PySem PySem.W PyProof.Rows
set_option maxRecDepth 100000 in
set_option maxHeartbeats 0 in
theorem PySem.Challenge.cw_hideworth_k49_whole_costs_stay_holds : PySem.Challenge.rw_hideworth_k49_whole_costs_stay.Holds := by
  w_on; o_law; k_head; (case hw => w_witness2)
  k_fill
  refine My.walk (l := PySem.Challenge.rw_hideworth_k49_whole_costs_stay) rfl rfl (fun w h Y => PySem.W.kIn_of Y) ?F
  case F =>
    intro w mg fa h KX G hmg
    refine' My.all_mk KX G hmg (My.txt_mk KX G ?a0 ?l0 ?c0 ?k0 ?a1 ?l1 ?c1 ?k1 ?a2 ?l2 ?c2 ?k2 ?a3 ?l3 ?c3 ?k3 ?a4 ?l4 ?c4 ?k4 ?a5 ?l5 ?c5 ?k5 ?a6 ?l6 ?c6 ?k6 ?a7 ?l7 ?c7 ?k7 ?a8 ?l8 ?c8 ?k8 ?a9 ?l9 ?c9 ?k9 ?a10 ?l10 ?c10 ?k10 ?a11 ?l11 ?c11 ?k11 ?a12 ?l12 ?c12 ?k12 ?a13 ?l13 ?c13 ?k13 ?a14 ?l14 ?c14 ?k14 ?a15 ?l15 ?c15 ?k15 ?a16 ?l16 ?c16 ?k16 ?a17 ?l17 ?c17 ?k17 ?a18 ?l18 ?c18 ?k18 ?a19 ?l19 ?c19 ?k19 ?a20 ?l20 ?c20 ?k20 ?a21 ?l21 ?c21 ?k21 ?a22 ?l22 ?c22 ?k22 ?a23 ?l23 ?c23 ?k23 ?a24 ?l24 ?c24 ?k24 ?z_list ?z_range ?z_len ?z_isinstance ?z_int ?z_bool ?z_tuple ?z_str ?z_min ?z_enumerate ?z_sorted ?z_set ?z_max ?ak_MOST_PLACES ?ak_MOST_ROADS ?ak_MOST_LENGTH ?at_KINDS ?lt_KINDS)
    (case a0 => k_is); (case l0 => k_is); (case c0 => k_is); (case k0 => k_is)
    (case a1 => k_is); (case l1 => k_is); (case c1 => k_is); (case k1 => k_is)
    (case a2 => k_is); (case l2 => k_is); (case c2 => k_is); (case k2 => k_is)
    (case a3 => k_is); (case l3 => k_is); (case c3 => k_is); (case k3 => k_is)
    (case a4 => k_is); (case l4 => k_is); (case c4 => k_is); (case k4 => k_is)
    (case a5 => k_is); (case l5 => k_is); (case c5 => k_is); (case k5 => k_is)
    (case a6 => k_is); (case l6 => k_is); (case c6 => k_is); (case k6 => k_is)
    (case a7 => k_is); (case l7 => k_is); (case c7 => k_is); (case k7 => k_is)
    (case a8 => k_is); (case l8 => k_is); (case c8 => k_is); (case k8 => k_is)
    (case a9 => k_is); (case l9 => k_is); (case c9 => k_is); (case k9 => k_is)
    (case a10 => k_is); (case l10 => k_is); (case c10 => k_is); (case k10 => k_is)
    (case a11 => k_is); (case l11 => k_is); (case c11 => k_is); (case k11 => k_is)
    (case a12 => k_is); (case l12 => k_is); (case c12 => k_is); (case k12 => k_is)
    (case a13 => k_is); (case l13 => k_is); (case c13 => k_is); (case k13 => k_is)
    (case a14 => k_is); (case l14 => k_is); (case c14 => k_is); (case k14 => k_is)
    (case a15 => k_is); (case l15 => k_is); (case c15 => k_is); (case k15 => k_is)
    (case a16 => k_is); (case l16 => k_is); (case c16 => k_is); (case k16 => k_is)
    (case a17 => k_is); (case l17 => k_is); (case c17 => k_is); (case k17 => k_is)
    (case a18 => k_is); (case l18 => k_is); (case c18 => k_is); (case k18 => k_is)
    (case a19 => k_is); (case l19 => k_is); (case c19 => k_is); (case k19 => k_is)
    (case a20 => k_is); (case l20 => k_is); (case c20 => k_is); (case k20 => k_is)
    (case a21 => k_is); (case l21 => k_is); (case c21 => k_is); (case k21 => k_is)
    (case a22 => k_is); (case l22 => k_is); (case c22 => k_is); (case k22 => k_is)
    (case a23 => k_is); (case l23 => k_is); (case c23 => k_is); (case k23 => k_is)
    (case a24 => k_is); (case l24 => k_is); (case c24 => k_is); (case k24 => k_is)
    (case z_list => k_is)
    (case z_range => k_is)
    (case z_len => k_is)
    (case z_isinstance => k_is)
    (case z_int => k_is)
    (case z_bool => k_is)
    (case z_tuple => k_is)
    (case z_str => k_is)
    (case z_min => k_is)
    (case z_enumerate => k_is)
    (case z_sorted => k_is)
    (case z_set => k_is)
    (case z_max => k_is)
    (case ak_MOST_PLACES => k_is)
    (case ak_MOST_ROADS => k_is)
    (case ak_MOST_LENGTH => k_is)
    (case at_KINDS => k_is)
    (case lt_KINDS => k_is)


