import PyProof.Rows.All
import Wide.All
import OpenK.AllK
import Wide.FinOn
import Lean
import PyProof.EqAt
import PyProof.EqKinds
import PyProof.TupleCall
import KE.IntBitsLaws
import PyProof.NeKinds
import KE.KIsAll
import PyProof.ExcAttrAll.ValueError
import KE.RegKIsAll
import OpenK.KOwn
import PyProof.ConsumeWalk
import PyProof.SumWalkG
import PyProof.Rows.SeqCalls
import PyProof.Rows.SeqGen
import PyProof.ZipIter
import PyProof.Rows.ZipGen
import PyProof.Rows.FactsT2
import PyProof.WalkInts
import PyProof.SeqI3
import PyProof.AutoSeq1
import KE.KRevSl
import PySem.Challenge.RW_hideworth_k77_plays_refused
set_option Elab.async false
set_option linter.all false
set_option maxRecDepth 100000
/-! THE HAND LAYER, for ints, bools, texts, own classes, LISTS and tuples (index, slices, in, append, pop ..), calls, loops. Paste it whole ahead of your own text; what your proof does not reach may be deleted. -/
namespace L2
open PySem PySem.Spec PyProof.Rows

/-- a key: an int or a str -/
abbrev Key := Sum Int Str
def keyIs : Key → Value → Bool
  | .inl k, v => Value.isInt k v
  | .inr x, v => Value.isStrOf x v
def keyH (w : World) : Key → Int
  | .inl k => hashInt k
  | .inr x => hashStr w x
theorem keyIs_shape : ∀ {k : Key} {v : Value}, keyIs k v = true → (∃ i t, k = Sum.inl i ∧ v = Value.int i t) ∨ (∃ x t, k = Sum.inr x ∧ v = Value.str x t)
  | .inl i, v, h => by
    obtain ⟨t, e⟩ := Value.isInt_shape (k := i) (v := v) h
    exact .inl ⟨i, t, rfl, e⟩
  | .inr x, v, h => by
    obtain ⟨t, e⟩ := Value.isStrOf_shape (x := x) (v := v) h
    exact .inr ⟨x, t, rfl, e⟩
theorem key_ll (a b : Int) : decide ((Sum.inl a : Key) = Sum.inl b) = (a == b) := by
  by_cases e : a = b
  · subst e; simp
  · have h : ¬ (Sum.inl a : Key) = Sum.inl b := fun q => e (Sum.inl.inj q)
    rw [decide_eq_false h]
    exact (beq_eq_false_iff_ne.mpr e).symm
theorem key_rr (a b : Str) : decide ((Sum.inr a : Key) = Sum.inr b) = decide (a = b) := by
  by_cases e : a = b
  · subst e; simp
  · have h : ¬ (Sum.inr a : Key) = Sum.inr b := fun q => e (Sum.inr.inj q)
    rw [decide_eq_false h, decide_eq_false e]
theorem key_lr (a : Int) (b : Str) : decide ((Sum.inl a : Key) = Sum.inr b) = false := decide_eq_false (fun q => nomatch q)
theorem key_rl (a : Str) (b : Int) : decide ((Sum.inr a : Key) = Sum.inl b) = false := decide_eq_false (fun q => nomatch q)

def mixKind (prog : Program) (w : World) : PySem.KeyKind prog w Key where
  is := keyIs
  hash := keyH w
  inj := fun v a b ha hb => by
    rcases keyIs_shape ha with ⟨i, t, rfl, rfl⟩ | ⟨x, t, rfl, rfl⟩
    · rcases keyIs_shape hb with ⟨j, u, rfl, e⟩ | ⟨y, u, rfl, e⟩
      · injection e with e1 _; rw [e1]
      · exact nomatch e
    · rcases keyIs_shape hb with ⟨j, u, rfl, e⟩ | ⟨y, u, rfl, e⟩
      · exact nomatch e
      · injection e with e1 _; rw [e1]
  byValue := fun k v h => by
    rcases keyIs_shape h with ⟨i, t, rfl, rfl⟩ | ⟨x, t, rfl, rfl⟩ <;> rfl
  pyHash := fun hv h => by
    rcases keyIs_shape hv with ⟨i, t, rfl, rfl⟩ | ⟨x, t, rfl, rfl⟩
    · exact wpAny_pyHash_int h
    · exact wpAny_pyHash_str h
  eqBool := fun hu hv h => by
    rcases keyIs_shape hu with ⟨i, t, rfl, rfl⟩ | ⟨x, t, rfl, rfl⟩
    · rcases keyIs_shape hv with ⟨j, u, rfl, rfl⟩ | ⟨y, u, rfl, rfl⟩
      · rw [key_ll] at h; exact wpAny_eqBool_int h
      · rw [key_lr] at h; exact SeqAt.EqAt.int_str i t y u _ _ _ _ h
    · rcases keyIs_shape hv with ⟨j, u, rfl, rfl⟩ | ⟨y, u, rfl, rfl⟩
      · rw [key_rl] at h; exact SeqAt.EqAt.str_int x t j u _ _ _ _ h
      · rw [key_rr] at h; exact wpAny_eqBool_str h
  «strs» := fun k x t v h => by
    rcases keyIs_shape h with ⟨i, u, rfl, e⟩ | ⟨y, u, rfl, e⟩
    · exact nomatch e
    · injection e with e1 _
      subst e1
      cases v <;> rfl

end L2

namespace L2
open PySem PySem.Spec PyProof.Rows

/-- a value, without the heap -/
inductive V where
  | non | bl (b : Bool) | int (i : Int) | str (x : Str) | byt (b : Array UInt8) | flt (b : UInt64) | ref (a : Addr) | ty (n : String)
  deriving DecidableEq

def RelV : V → Value → Prop
  | .non, u => u = Value.none
  | .bl b, u => u = Value.bool b
  | .int i, u => ∃ t, u = Value.int i t
  | .str x, u => ∃ t, u = Value.str x t
  | .byt b, u => ∃ t, u = Value.bytes b t
  | .flt b, u => ∃ t, u = Value.float b t
  | .ref a, u => u = Value.ref a
  | .ty n, u => u = Value.type n

abbrev Vals : List V → List Value → Prop := Paired RelV
theorem Vals.length {xs : List V} {us : List Value} (r : Vals xs us) : xs.length = us.length := Paired.length r
theorem Vals.get : ∀ {xs : List V} {us : List Value} {i : Nat} {x : V}, Vals xs us → xs[i]? = some x → ∃ u, us[i]? = some u ∧ RelV x u
  | _, _, _, _, .nil, e => by simp at e
  | _, _, 0, _, .cons r _, e => by simp at e; subst e; exact ⟨_, rfl, r⟩
  | _, _, i + 1, x, .cons _ t, e => by
    obtain ⟨u, h1, h2⟩ := Vals.get (i := i) (x := x) t (by simpa using e)
    exact ⟨u, by simpa using h1, h2⟩
theorem Vals.set {x : V} {u : Value} (r : RelV x u) : ∀ {xs : List V} {us : List Value} (i : Nat), Vals xs us → Vals (xs.set i x) (us.set i u)
  | _, _, _, .nil => .nil
  | _, _, 0, .cons _ t => .cons r t
  | _, _, i + 1, .cons q t => .cons q (Vals.set r i t)
theorem Vals.append : ∀ {xs ys : List V} {us ws : List Value}, Vals xs us → Vals ys ws → Vals (xs ++ ys) (us ++ ws)
  | _, _, _, _, .nil, s => s
  | _, _, _, _, .cons r t, s => .cons r (Vals.append t s)
theorem Vals.take : ∀ {xs : List V} {us : List Value} (n : Nat), Vals xs us → Vals (xs.take n) (us.take n)
  | _, _, 0, _ => .nil
  | _, _, _ + 1, .nil => .nil
  | _, _, n + 1, .cons r t => .cons r (Vals.take n t)
theorem Vals.drop : ∀ {xs : List V} {us : List Value} (n : Nat), Vals xs us → Vals (xs.drop n) (us.drop n)
  | _, _, 0, r => r
  | _, _, _ + 1, .nil => .nil
  | _, _, n + 1, .cons _ t => Vals.drop n t
def RelO : Option V → Option Value → Prop
  | some v, some u => RelV v u
  | none, none => True
  | _, _ => False
def KV {κ : Type} : List (κ × V) → List (κ × Value) → Prop := Paired fun (p : κ × V) (q : κ × Value) => p.1 = q.1 ∧ RelV p.2 q.2

/-- a key of a dict (00_mix): an int or a text -/
def kV : Key → V
  | .inl i => .int i
  | .inr x => .str x

/-- what stands at a tracked address -/
inductive HO where
  /-- a list -/
  | lst (xs : List V)
  /-- a tuple (never changes) -/
  | tup (xs : List V)
  /-- a dict whose keys are ints and texts; one whose keys are tuples of ints and texts (the empty one is both) -/
  | dK (kvs : List (Key × V)) | dT (kvs : List (List Key × V))
  /-- a set of ints: its members, its size -/
  | set (S : Int → Bool) (n : Nat)
  /-- an instance of the class at C, its dict at dx, its attributes -/
  | ins (C dx : Addr) (fs : List (Str × V))
  /-- the dict of the instance at x -/
  | own (x : Addr)
  /-- the dict of an exception -/
  | xd (fs : List (Str × V))
  /-- a bound method, f of x -/
  | met (f x : Addr)
  /-- a range object lo, lo + 1, .. below hi -/
  | rng (lo hi : Int)
  /-- a thing that is known to the object (the script; a dict while a loop walks it): read, never written while it is so -/
  | frz (o : Obj) (u : HO)
  /-- a code object's table -/
  | tbl (ps : Array Value)
  /-- any other thing, by what is true of its one object (a def of one's own: SetO a S n := HO.ext fun h => ..) -/
  | ext (φ : Heap → Prop)

abbrev Hp := Addr → Option HO
def upd (H : Hp) (a : Addr) (o : HO) : Hp := fun b => if b = a then some o else H b
theorem upd_same {H : Hp} {a : Addr} {o : HO} : upd H a o a = some o := by unfold upd; rw [if_pos rfl]
theorem upd_ne {H : Hp} {a b : Addr} {o : HO} (h : b ≠ a) : upd H a o b = H b := by unfold upd; rw [if_neg h]
/-- two objects of different content stand apart -/
theorem ne_of {H : Hp} {a b : Addr} {o u : HO} (h : H a = some o) (h' : H b = some u) (d : o ≠ u) : a ≠ b := by
  intro e; subst e; rw [h] at h'; exact d (Option.some.inj h')
theorem ne_of_none {H : Hp} {a b : Addr} {o : HO} (h : H a = some o) (h' : H b = none) : a ≠ b := by
  intro e; subst e; rw [h] at h'; cases h'

section
variable (P : Program) (w : World)
def ObjOk (H : Hp) (h : Heap) (a : Addr) : HO → Prop
  | .lst xs => xs.length ≤ sizeLine ∧ ∃ (its : List Value) (n : Nat), Vals xs its ∧ h.get? a = some { cls := .type "list", data := .seq its.toArray n }
  | .tup xs => xs.length ≤ sizeLine ∧ ∃ its : List Value, Vals xs its ∧ IsTup h a its.toArray
  | .dK kvs => kvs.length ≤ sizeLine ∧ (a == sysModules) = false ∧ ∃ vs, KV kvs vs ∧ h.DictOf (mixKind P w) a vs
  | .dT kvs => kvs.length ≤ sizeLine ∧ (a == sysModules) = false ∧ ∃ xs : List (List Key × Addr × Value),
      Paired (fun (p : List Key × V) (q : List Key × Addr × Value) => p.1 = q.1 ∧ H q.2.1 = some (.tup (p.1.map kV)) ∧ RelV p.2 q.2.2) kvs xs ∧
      ∃ o es ep, h.get? a = some o ∧ o.ExactDict ∧ o.data = .dict es ep ∧ es.toList = xs.map (entryOfKey (tupleKind (mixKind P w))) ∧ (xs.map (·.1)).Nodup
  | .set S n => h.SetOf (intKind P w) a S n
  | .ins C dx fs => H dx = some (.own a) ∧ fs.length ≤ 1000 ∧ dx ≠ a ∧ h.get? a = some (PySem.W.instObj C dx) ∧
      ∃ mA, h.Ns1 dx mA ∧ (∀ f, RelO (fs.lookup f) (mA f)) ∧ PySem.Within mA (fs.map (·.1))
  | .own _ => ∃ o, h.get? a = some o
  | .xd fs => ∃ mA, h.Ns1 a mA ∧ ∀ f, RelO (fs.lookup f) (mA f)
  | .rng lo hi => ∃ t u v, h.get? a = some { cls := .type "range", data := .fields #[.int lo t, .int hi u, .int 1 v] }
  | .frz o u => h.get? a = some o ∧ ObjOk H h a u
  | .tbl ps => h.get? a = some { cls := .none, data := .fields ps }
  | .met f x => h.get? a = some (PySem.W.methodObj (.ref f) (.ref x))
  | .ext φ => φ h ∧ (∃ o, h.get? a = some o) ∧ ∀ h1 h2 : Heap, φ h1 → (∀ o, h1.get? a = some o → h2.get? a = some o) → φ h2
/-- the abstract heap is held -/
def HOk (H : Hp) (h : Heap) : Prop := ∀ a o, H a = some o → ObjOk P w H h a o
end

section
variable {P : Program} {w : World} {H H' : Hp} {h h' : Heap} {a : Addr} {o : HO}
theorem ObjOk.lt (x : ObjOk P w H h a o) : a < h.objs.size := by
  cases o with
  | lst xs => obtain ⟨_, _, _, _, e⟩ := x; exact Heap.lt_size e
  | tup xs => obtain ⟨_, _, _, p⟩ := x; exact p.lt
  | dK kvs => obtain ⟨_, _, _, _, o, _, _, e, _⟩ := x; exact Heap.lt_size e
  | dT kvs => obtain ⟨_, _, _, _, o, _, _, e, _⟩ := x; exact Heap.lt_size e
  | set S n => obtain ⟨o, _, _, _, e, _⟩ := x; exact Heap.lt_size e
  | ins C dx fs => obtain ⟨_, _, _, e, _⟩ := x; exact Heap.lt_size e
  | own y => obtain ⟨_, e⟩ := x; exact Heap.lt_size e
  | xd fs => obtain ⟨_, ⟨_, _, _, e, _⟩, _⟩ := x; exact Heap.lt_size e
  | rng lo hi => obtain ⟨_, _, _, e⟩ := x; exact Heap.lt_size e
  | frz ob u => obtain ⟨e, _⟩ := x; exact Heap.lt_size e
  | tbl ps => exact Heap.lt_size (show h.get? a = some _ from x)
  | met f y => exact Heap.lt_size (show h.get? a = some _ from x)
  | ext φ => obtain ⟨_, ⟨_, e⟩, _⟩ := x; exact Heap.lt_size e
theorem Paired.mapP {α β : Type} {F G : α → β → Prop} : ∀ {l₁ : List α} {l₂ : List β}, Paired F l₁ l₂ → (∀ a b, F a b → G a b) → Paired G l₁ l₂
  | _, _, .nil, _ => .nil
  | _, _, .cons r t, f => .cons (f _ _ r) (Paired.mapP t f)
/-- what an object's description leans on: its own object, its own dict, the tuples -/
theorem ObjOk.stay (x : ObjOk P w H h a o) (k : ∀ b u, (b = a ∨ H b = some (.own a)) → h.get? b = some u → h'.get? b = some u)
    (ho : ∀ b, H b = some (.own a) → H' b = some (.own a)) (ht : ∀ b xs, H b = some (.tup xs) → H' b = some (.tup xs)) : ObjOk P w H' h' a o := by
  induction o with
  | lst xs => obtain ⟨z, its, n, r, e⟩ := x; exact ⟨z, its, n, r, k _ _ (.inl rfl) e⟩
  | tup xs => obtain ⟨z, its, r, ob, e, c⟩ := x; exact ⟨z, its, r, ob, k _ _ (.inl rfl) e, c⟩
  | dK kvs => obtain ⟨z, y, vs, r, ob, es, ep, e, c⟩ := x; exact ⟨z, y, vs, r, ob, es, ep, k _ _ (.inl rfl) e, c⟩
  | dT kvs =>
    obtain ⟨z, y, xs, r, ob, es, ep, e, c⟩ := x
    exact ⟨z, y, xs, Paired.mapP r fun p q z => ⟨z.1, ht _ _ z.2.1, z.2.2⟩, ob, es, ep, k _ _ (.inl rfl) e, c⟩
  | set S n => obtain ⟨ob, es, ep, t, e, c⟩ := x; exact ⟨ob, es, ep, t, k _ _ (.inl rfl) e, c⟩
  | ins C dx fs =>
    obtain ⟨d, z, ne, e, mA, ⟨od, es, ep, e2, c⟩, r⟩ := x
    exact ⟨ho _ d, z, ne, k _ _ (.inl rfl) e, mA, ⟨od, es, ep, k _ _ (.inr d) e2, c⟩, r⟩
  | own y => obtain ⟨ob, e⟩ := x; exact ⟨ob, k _ _ (.inl rfl) e⟩
  | xd fs => obtain ⟨mA, ⟨od, es, ep, e, c⟩, r⟩ := x; exact ⟨mA, ⟨od, es, ep, k _ _ (.inl rfl) e, c⟩, r⟩
  | rng lo hi => obtain ⟨t, u, v, e⟩ := x; exact ⟨t, u, v, k _ _ (.inl rfl) e⟩
  | frz ob u ih => obtain ⟨e, q⟩ := x; exact ⟨k _ _ (.inl rfl) e, ih q⟩
  | tbl ps =>
    have e : h.get? a = some { cls := .none, data := .fields ps } := x
    show h'.get? a = some { cls := .none, data := .fields ps }
    exact k a _ (.inl rfl) e
  | met f y =>
    have e : h.get? a = some (PySem.W.methodObj (.ref f) (.ref y)) := x
    show h'.get? a = some (PySem.W.methodObj (.ref f) (.ref y))
    exact k a _ (.inl rfl) e
  | ext φ => obtain ⟨p, ⟨o, e⟩, st⟩ := x; exact ⟨st _ _ p fun o q => k _ _ (.inl rfl) q, ⟨o, k _ _ (.inl rfl) e⟩, st⟩
theorem HOk.lt (x : HOk P w H h) (e : H a = some o) : a < h.objs.size := (x a o e).lt
theorem HOk.fresh (x : HOk P w H h) (e : h.objs.size ≤ a) : H a = none := by
  cases q : H a with
  | none => rfl
  | some u => exact absurd (Nat.lt_of_lt_of_le (x.lt q) e) (Nat.lt_irrefl _)
/-- every object of the heap is kept -/
theorem HOk.kept (x : HOk P w H h) (k : ∀ b u, h.get? b = some u → h'.get? b = some u) : HOk P w H h' := fun a o e =>
  (x a o e).stay (fun b u _ q => k b u q) (fun _ q => q) fun _ _ q => q
/-- a new object is laid and tracked -/
theorem HOk.laid (x : HOk P w H h) (k : ∀ b u, h.get? b = some u → h'.get? b = some u) (hp : h.objs.size ≤ a) (new : ObjOk P w (upd H a o) h' a o) : HOk P w (upd H a o) h' := fun b u e => by
  have hn := x.fresh hp
  by_cases hb : b = a
  · subst hb; rw [upd_same] at e; cases e; exact new
  · rw [upd_ne hb] at e
    exact (x b u e).stay (fun c v _ q => k c v q) (fun c q => by rw [upd_ne (ne_of_none q hn)]; exact q) fun c xs q => by rw [upd_ne (ne_of_none q hn)]; exact q
end

/-- what may be read as u: it is u, or a known u -/
def Rd (H : Hp) (a : Addr) (u : HO) : Prop := H a = some u ∨ ∃ o, H a = some (.frz o u)
theorem Rd.of {H : Hp} {a : Addr} {u : HO} (h : H a = some u) : Rd H a u := .inl h
theorem Rd.ok {P : Program} {w : World} {H : Hp} {h : Heap} {a : Addr} {u : HO} (r : Rd H a u) (x : HOk P w H h) : ObjOk P w H h a u := by
  rcases r with r | ⟨o, r⟩
  · exact x a u r
  · obtain ⟨_, q⟩ := x a _ r
    exact q
/-- what may be written -/
def Mut : Option HO → Prop
  | some (.lst _) => True
  | some (.dK _) => True
  | some (.dT _) => True
  | some (.set _ _) => True
  | some (.ins _ _ _) => True
  | some (.ext _) => True
  | _ => False
section
variable {P : Program} {w : World} {H : Hp} {h h' : Heap} {x e : Addr} {o' : HO}
/-- the object at e is changed: x itself, or the dict of the instance x -/
theorem HOk.write (ok : HOk P w H h) (mu : Mut (H x)) (he : e = x ∨ H e = some (.own x)) (k : ∀ b u, b ≠ e → h.get? b = some u → h'.get? b = some u) (heo : ∃ u, h'.get? e = some u)
    (new : ObjOk P w (upd H x o') h' x o') : HOk P w (upd H x o') h' := fun b u q => by
  have nown : ∀ c y, H c = some (.own y) → c ≠ x := fun c y r z => by subst z; rw [r] at mu; exact mu
  have ntup : ∀ c xs, H c = some (.tup xs) → c ≠ x := fun c xs r z => by subst z; rw [r] at mu; exact mu
  by_cases hb : b = x
  · subst hb; rw [upd_same] at q; cases q; exact new
  · rw [upd_ne hb] at q
    by_cases hbe : b = e
    · have q' : H b = some (.own x) := by
        rcases he with z | z
        · exact absurd (hbe.trans z) hb
        · rw [hbe]; exact z
      rw [q] at q'; cases q'
      obtain ⟨v, hv⟩ := heo
      exact ⟨v, by rw [hbe]; exact hv⟩
    · refine (ok b u q).stay (fun c v hc r => k c v ?_ r) (fun c r => by rw [upd_ne (nown c b r)]; exact r) fun c xs r => by rw [upd_ne (ntup c xs r)]; exact r
      rcases hc with rfl | hc
      · exact hbe
      · rintro rfl
        rcases he with z | z
        · exact nown c b hc z
        · rw [hc] at z; cases z; exact hb rfl
end

/-! ### kept unless tracked; of the frames at fs (the callers') the slots may change (an exception that passes writes there); of the records at ex (iterators) nothing is said -/
structure Un (fs ex : List Addr) (H H' : Hp) (h h' : Heap) : Prop where
  keep : ∀ b o, h.get? b = some o → H b = none → b ∉ fs → b ∉ ex → h'.get? b = some o
  slot : ∀ b o, h.get? b = some o → H b = none → b ∈ fs → b ∉ ex → ∃ sl, h'.get? b = some { o with slots := sl }
  free : ∀ b o, h.get? b = some o → H b = none → b ∉ ex → H' b = none
  there : ∀ b o, h.get? b = some o → b ∉ ex → ∃ o', h'.get? b = some o'
  tups : ∀ b xs, H b = some (.tup xs) → H' b = some (.tup xs)
  frzs : ∀ b o u, H b = some (.frz o u) → H' b = some (.frz o u)
  tbls : ∀ b ps, H b = some (.tbl ps) → ∃ more, H' b = some (.tbl (ps ++ more))
section
variable {fs fs' ex ex' : List Addr} {H H1 H2 : Hp} {h h1 h2 h' : Heap} {a x e : Addr} {o : HO}
theorem Un.any (u : Un fs ex H H1 h h1) {b : Addr} {ob : Obj} (q : h.get? b = some ob) (n : H b = none) (hx : b ∉ ex) : ∃ sl, h1.get? b = some { ob with slots := sl } := by
  by_cases hb : b ∈ fs
  · exact u.slot b ob q n hb hx
  · exact ⟨ob.slots, u.keep b ob q n hb hx⟩
theorem Un.trans (a : Un fs ex H H1 h h1) (b : Un fs ex H1 H2 h1 h2) : Un fs ex H H2 h h2 where
  keep := fun c ob q n hc hx => b.keep c ob (a.keep c ob q n hc hx) (a.free c ob q n hx) hc hx
  slot := fun c ob q n hc hx => by
    obtain ⟨sl, e1⟩ := a.slot c ob q n hc hx
    obtain ⟨sl', e2⟩ := b.slot c _ e1 (a.free c ob q n hx) hc hx
    exact ⟨sl', e2⟩
  free := fun c ob q n hx => by
    obtain ⟨o', e1⟩ := a.there c ob q hx
    exact b.free c o' e1 (a.free c ob q n hx) hx
  there := fun c ob q hx => by
    obtain ⟨o', e1⟩ := a.there c ob q hx
    exact b.there c o' e1 hx
  tups := fun c xs q => b.tups c xs (a.tups c xs q)
  frzs := fun c ob xs q => b.frzs c ob xs (a.frzs c ob xs q)
  tbls := fun c ps q => by
    obtain ⟨m1, e1⟩ := a.tbls c ps q
    obtain ⟨m2, e2⟩ := b.tbls c _ e1
    exact ⟨m1 ++ m2, by rw [e2, Array.append_assoc]⟩
theorem Un.kept (k : ∀ b u, h.get? b = some u → h'.get? b = some u) : Un fs ex H H h h' :=
  ⟨fun b ob q _ _ _ => k b ob q, fun b ob q _ _ _ => ⟨ob.slots, k b ob q⟩, fun _ _ _ n _ => n, fun b ob q _ => ⟨ob, k b ob q⟩, fun _ _ q => q, fun _ _ _ q => q, fun _ ps q => ⟨#[], by rw [q]; simp⟩⟩
theorem Un.refl : Un fs ex H H h h := Un.kept fun _ _ q => q
theorem Un.laid (k : ∀ b u, h.get? b = some u → h'.get? b = some u) (hp : h.objs.size ≤ a) (hn : H a = none) : Un fs ex H (upd H a o) h h' where
  keep := fun b u q _ _ _ => k b u q
  slot := fun b u q _ _ _ => ⟨u.slots, k b u q⟩
  free := fun b u q n _ => by rw [upd_ne (Nat.ne_of_lt (Nat.lt_of_lt_of_le (Heap.lt_size q) hp))]; exact n
  there := fun b u q _ => ⟨u, k b u q⟩
  tups := fun b xs q => by rw [upd_ne (ne_of_none q hn)]; exact q
  frzs := fun b u xs q => by rw [upd_ne (ne_of_none q hn)]; exact q
  tbls := fun b ps q => ⟨#[], by rw [upd_ne (ne_of_none q hn), q]; simp⟩
theorem Un.write (mu : Mut (H x)) (he : e = x ∨ H e = some (.own x)) (k : ∀ b u, b ≠ e → h.get? b = some u → h'.get? b = some u) (heo : ∃ u, h'.get? e = some u) : Un fs ex H (upd H x o) h h' := by
  have hx : ∀ b, H b = none → b ≠ x := fun b n z => by subst z; rw [n] at mu; exact mu
  have hb : ∀ b, H b = none → b ≠ e := fun b n z => by
    subst z
    rcases he with r | r
    · exact hx b n r
    · rw [n] at r; cases r
  have hm : ∀ b u, H b = some u → ¬ Mut (some u) → b ≠ x := fun b u q nm z => by subst z; rw [q] at mu; exact nm mu
  refine ⟨fun b u q n _ _ => k b u (hb b n) q, fun b u q n _ _ => ⟨u.slots, k b u (hb b n) q⟩, fun b u q n _ => by rw [upd_ne (hx b n)]; exact n, fun b u q _ => ?_,
    fun b xs q => by rw [upd_ne (hm b _ q fun z => z)]; exact q, fun b u xs q => by rw [upd_ne (hm b _ q fun z => z)]; exact q, fun b ps q => ⟨#[], by rw [upd_ne (hm b _ q fun z => z), q]; simp⟩⟩
  by_cases hbe : b = e
  · subst hbe; exact heo
  · exact ⟨u, k b u hbe q⟩
theorem Un.mono (u : Un fs ex H H1 h h1) (hs : ∀ b ∈ fs, b ∈ fs') (hx : ∀ b ∈ ex, b ∈ ex') : Un fs' ex' H H1 h h1 :=
  ⟨fun b ob q n hb he => u.keep b ob q n (fun z => hb (hs b z)) fun z => he (hx b z), fun _ _ q n _ he => u.any q n fun z => he (hx _ z), fun b ob q n he => u.free b ob q n fun z => he (hx b z), fun b ob q he => u.there b ob q fun z => he (hx b z), u.tups, u.frzs, u.tbls⟩
end

/-! ### the heap without what is tracked -/
def trk (h : Heap) (H : Hp) : List Addr := (List.range h.objs.size).filter fun a => (H a).isSome
def hidT (h : Heap) (H : Hp) : Heap := PySem.W.hideAll h (trk h H)
theorem hidT_size (h : Heap) (H : Hp) : (hidT h H).objs.size = h.objs.size := PySem.W.hideAll_size _ _
theorem hidT_get {h : Heap} {H : Hp} {b : Addr} {o : Obj} (e : h.get? b = some o) (n : H b = none) : (hidT h H).get? b = some o :=
  PySem.W.hideAll_get _ e fun hm => by
    have q : (H b).isSome = true := (List.mem_filter.mp hm).2
    rw [n] at q; simp at q
theorem of_hidT {h : Heap} {H : Hp} {b : Addr} {o : Obj} (e : (hidT h H).get? b = some o) : h.get? b = some o ∧ H b = none := by
  have e' : h.get? b = some o := PySem.W.of_hideAll (trk h H) e
  refine ⟨e', ?_⟩
  cases q : H b with
  | none => rfl
  | some x =>
    have hm : b ∈ trk h H := List.mem_filter.mpr ⟨List.mem_range.mpr (Heap.lt_size e'), by simp [q]⟩
    have z : (hidT h H).get? b = none := PySem.W.hideAll_none (trk h H) hm
    rw [z] at e; cases e

/-! ### OpenK's ledger, filled with every new object but one -/
def allNews (g h : Heap) (L : Addr) : List (Addr × Obj) := (List.range h.objs.size).filterMap fun a => if a = L ∨ (g.get? a).isSome = true then none else (h.get? a).map fun o => (a, o)
def rest (g h : Heap) (L d : Addr) : List (Addr × Obj) := (allNews g h L).filter fun p => decide (p.1 ≠ d)
end L2

namespace L2
open PySem PySem.Spec PyProof.Rows

/-- the module's facts, over the base: the heap at the law's entry without what is tracked there -/
structure Mod (K : PySem.W.Frag) (mg : Str → Option Value) (base : Heap) : Prop where
  kin : K.In base
  glob : base.Ns mainGlobals mg
  blt : ∃ mb, base.Ns builtinsNs mb ∧ ∀ x : Str, x ≠ "__name__" → mb x = bootBuiltins x
  nolimit : base.NoLimit

/-- the context: a def's body (or a comprehension's block) running. base: fixed through the whole law; s₀, H₀: the entry; outer: the frames whose slots others may change (a def's callers); stack: all frames that run;
   ex: iterators that were made ahead of the entry and are walked here (a comprehension's); fn: the names whose cells were made at the entry (a def: all; a comprehension's block: its own); calm: not within an except suite; pn: pins that every state bears; xe: what is wanted of an exception that leaves the code -/
structure Cx where
  prog : Program
  w : World
  K : PySem.W.Frag
  mg : Str → Option Value
  base : Heap
  A : Around
  N : List Str
  s₀ : Shared
  H₀ : Hp
  env : Env
  outer : List Env
  stack : List Env
  ex : List Addr
  fn : Str → Bool
  calm : Bool
  pn : List (Addr × Obj)
  xe : Value → Shared → Prop
/-- the callers' frames -/
def frs (l : List Env) : List Addr := l.filterMap (·.frame)
abbrev Cx.fs (X : Cx) : List Addr := frs X.outer

def Vis (sc : Scope) (x : Str) : Prop := sc.names.lookup x = some .local ∨ sc.names.lookup x = some .cell ∨ sc.names.lookup x = some .free
def Loc (sc : Scope) (x : Str) : Prop := sc.names.lookup x = some .local ∨ sc.names.lookup x = some .cell
def Look (env : Env) (h : Heap) (m : Str → Option Value) (x : Str) (u : Value) : Prop :=
  (env.kindOf x = some .local ∧ m x = some u) ∨ ((env.kindOf x = some .cell ∨ env.kindOf x = some .free) ∧ ∃ c, env.cells.lookup x = some c ∧ h.IsCell c (some u))

structure Cx.Ok (X : Cx) : Prop where
  mod : Mod X.K X.mg X.base
  kind : X.env.scope.kind = .function
  glob : X.env.globals = mainGlobals
  blt : X.env.builtins = builtinsNs
  above : X.s₀.heap.objs.size ≤ X.env.locals
  inj : ∀ x y c, X.env.cells.lookup x = some c → X.env.cells.lookup y = some c → x = y
  has : ∀ x, (X.env.kindOf x = some .cell ∨ X.env.kindOf x = some .free) → ∃ c, X.env.cells.lookup x = some c
  cab : ∀ x c, X.fn x = true → X.env.cells.lookup x = some c → X.s₀.heap.objs.size ≤ c
  hd : X.calm = true → X.A.handled = none
  frames : X.A.frames = some X.stack
  stk : X.stack = X.outer ∨ (X.stack = X.env :: X.outer ∧ X.env.frame = some X.env.locals)
  exf : ∀ b ∈ X.ex, b ≠ X.env.locals ∧ ∀ x c, X.env.cells.lookup x = some c → c ≠ b
  bs : ∀ b o, X.base.get? b = some o → X.s₀.heap.get? b = some o ∧ X.H₀ b = none
  bsz : X.base.objs.size ≤ X.s₀.heap.objs.size
  noex : ∀ b o, X.base.get? b = some o → b ∉ X.ex
  exfs : ∀ b ∈ X.ex, b ∉ X.fs
  funs : X.s₀.heap.FunFrames X.base X.outer
  frf : ∀ b ∈ X.fs, X.H₀ b = none

structure Inv (X : Cx) (pins : List (Addr × Obj)) (σ : List (Option V)) (H : Hp) (s : Shared) : Prop where
  ok : X.Ok
  os : s.os = X.s₀.os
  bare : AllBare s.gens
  base : Un X.fs X.ex X.H₀ H X.s₀.heap s.heap
  loc : ∃ m, s.heap.Ns X.env.locals m ∧ ∀ (i : Nat) (x : Str) (v : V), X.N[i]? = some x → σ[i]? = some (some v) → Vis X.env.scope x → ∃ u, RelV v u ∧ Look X.env s.heap m x u
  cell : ∀ x c, X.env.cells.lookup x = some c → ∃ v, s.heap.IsCell c v
  free : H X.env.locals = none
  freeC : ∀ x c, X.env.cells.lookup x = some c → H c = none
  pin : ∀ p ∈ X.pn ++ pins, s.heap.get? p.1 = some p.2 ∧ H p.1 = none ∧ p.1 ≠ X.env.locals ∧ p.1 ∉ X.fs ∧ ∀ v, p.2.data ≠ .cell v
  hok : HOk X.prog X.w H s.heap
  len : σ.length = X.N.length

section
variable {X : Cx} {pins : List (Addr × Obj)} {σ : List (Option V)} {H H' : Hp} {s : Shared} {h' : Heap}

theorem Cx.Ok.nofr (ok : X.Ok) {b : Addr} {o : Obj} (e : X.base.get? b = some o) : b ∉ X.fs := fun hb => by
  have := (ok.funs.mem hb).1
  rw [e] at this; cases this
theorem Inv.bs (I : Inv X pins σ H s) : ∀ b o, X.base.get? b = some o → s.heap.get? b = some o ∧ H b = none := fun b o e =>
  ⟨I.base.keep b o (I.ok.bs b o e).1 (I.ok.bs b o e).2 (I.ok.nofr e) (I.ok.noex b o e), I.base.free b o (I.ok.bs b o e).1 (I.ok.bs b o e).2 (I.ok.noex b o e)⟩
theorem Inv.bk (I : Inv X pins σ H s) : ∀ b o, X.base.get? b = some o → s.heap.get? b = some o := fun b o e => (I.bs b o e).1
theorem Inv.mod (I : Inv X pins σ H s) : Mod X.K X.mg X.base := I.ok.mod
theorem Inv.kIn (I : Inv X pins σ H s) : X.K.In s.heap := I.ok.mod.kin.keeps I.bk
theorem Inv.lt (I : Inv X pins σ H s) : X.env.locals < s.heap.objs.size := let ⟨_, hn, _⟩ := I.loc; hn.lt
theorem Inv.sz (I : Inv X pins σ H s) : X.s₀.heap.objs.size ≤ s.heap.objs.size := Nat.le_trans I.ok.above (Nat.le_of_lt I.lt)
theorem Inv.nofs (I : Inv X pins σ H s) {a : Addr} (h : s.heap.objs.size ≤ a) : a ∉ X.fs := fun hb => by
  obtain ⟨_, o, ho, _⟩ := I.ok.funs.mem hb
  exact absurd (Nat.lt_of_lt_of_le (Heap.lt_size ho) (Nat.le_trans I.sz h)) (Nat.lt_irrefl _)
theorem Inv.cne (I : Inv X pins σ H s) : ∀ x c, X.env.cells.lookup x = some c → c ≠ X.env.locals := fun x c e z => by
  obtain ⟨v, o, ho, hd⟩ := I.cell x c e
  obtain ⟨m, ⟨o', es, ep, ho', hd', _⟩, _⟩ := I.loc
  rw [z, ho'] at ho; cases ho; rw [hd'] at hd; cases hd
theorem Inv.funs (I : Inv X pins σ H s) : s.heap.FunFrames X.base X.outer := by
  have all : ∀ (l : List Env), (∀ b ∈ frs l, b ∈ X.fs) → X.s₀.heap.FunFrames X.base l → s.heap.FunFrames X.base l := by
    intro l
    induction l with
    | nil => intro _ _; trivial
    | cons env r ih =>
      intro hs hl
      obtain ⟨hk, ⟨L, o, hf, hn, ho, hd⟩, hr⟩ := hl
      have hL : L ∈ X.fs := hs L (by unfold frs; rw [List.filterMap_cons, hf]; exact List.mem_cons_self)
      obtain ⟨sl, e⟩ := I.base.slot L o ho (I.ok.frf L hL) hL fun z => I.ok.exfs L z hL
      exact ⟨hk, ⟨L, _, hf, hn, e, hd⟩, ih (fun b hb => hs b (by unfold frs; rw [List.filterMap_cons, hf]; exact List.mem_cons_of_mem _ hb)) hr⟩
  exact all X.outer (fun _ hb => hb) I.ok.funs

/-- the frames that run, for a call -/
theorem Inv.stack (I : Inv X pins σ H s) : s.heap.FunFrames X.base X.stack := by
  rcases I.ok.stk with e | ⟨e, hf⟩
  · rw [e]; exact I.funs
  · rw [e]
    obtain ⟨m, hn, _⟩ := I.loc
    refine .cons (by rw [I.ok.kind]; decide) hf hn ?_ I.funs
    exact Heap.get?_none_of_le (Nat.le_trans I.ok.bsz I.ok.above)
theorem Inv.stkSub (I : Inv X pins σ H s) : ∀ b ∈ frs X.stack, b ∈ X.env.locals :: X.fs := fun b hb => by
  rcases I.ok.stk with e | ⟨e, hf⟩
  · rw [e] at hb; exact List.mem_cons_of_mem _ hb
  · rw [e] at hb
    unfold frs at hb
    rw [List.filterMap_cons, hf] at hb
    exact hb
theorem Inv.stkFree (I : Inv X pins σ H s) : ∀ b ∈ frs X.stack, H b = none := fun b hb => by
  rcases List.mem_cons.mp (I.stkSub b hb) with e | hb
  · rw [e]; exact I.free
  · obtain ⟨_, o, ho, _⟩ := I.ok.funs.mem hb
    exact I.base.free b o ho (I.ok.frf b hb) fun z => I.ok.exfs b z hb

/-- THE STEP: the untracked objects but the frame and the records at ch are kept (the callers' frames up to slots), the frame's map is kept, the new abstract heap is held -/
theorem Inv.step {g' : Array GenState} {t' : Nat} {d' : Drawn} {ch : List Addr} (I : Inv X pins σ H s)
    (hch : ∀ b ∈ ch, (b ∈ X.ex ∨ X.s₀.heap.objs.size ≤ b) ∧ b ≠ X.env.locals ∧ (∀ x c, X.env.cells.lookup x = some c → c ≠ b) ∧ ∀ p ∈ X.pn ++ pins, p.1 ≠ b)
    (keep : ∀ b o, b ≠ X.env.locals → b ∉ X.fs → b ∉ ch → s.heap.get? b = some o → H b = none → h'.get? b = some o)
    (slot : ∀ b o, b ≠ X.env.locals → b ∈ X.fs → b ∉ ch → s.heap.get? b = some o → H b = none → ∃ sl, h'.get? b = some { o with slots := sl }) (free : ∀ b o, b ∉ ch → s.heap.get? b = some o → H b = none → H' b = none)
    (there : ∀ b o, b ∉ ch → s.heap.get? b = some o → ∃ o', h'.get? b = some o')
    (tups : ∀ b xs, H b = some (.tup xs) → H' b = some (.tup xs)) (frzs : ∀ b o u, H b = some (.frz o u) → H' b = some (.frz o u)) (tbls : ∀ b ps, H b = some (.tbl ps) → ∃ more, H' b = some (.tbl (ps ++ more)))
    (ns : ∀ m, s.heap.Ns X.env.locals m → h'.Ns X.env.locals m) (hok : HOk X.prog X.w H' h') (hg : AllBare g') :
    Inv X pins σ H' { s with heap := h', gens := g', drawn := d', toks := t' } := by
  have neL : ∀ b o, X.s₀.heap.get? b = some o → b ≠ X.env.locals := fun b o e => Nat.ne_of_lt (Nat.lt_of_lt_of_le (Heap.lt_size e) I.ok.above)
  have neC : ∀ b o, X.s₀.heap.get? b = some o → b ∉ X.ex → b ∉ ch := fun b o e hx hb => by
    rcases (hch b hb).1 with z | z
    · exact hx z
    · exact absurd (Nat.lt_of_lt_of_le (Heap.lt_size e) z) (Nat.lt_irrefl _)
  have cellK : ∀ x c, X.env.cells.lookup x = some c → ∀ v, s.heap.IsCell c v → h'.IsCell c v := fun x c e v ⟨o, ho, hd⟩ => by
    have nch : c ∉ ch := fun z => (hch c z).2.2.1 x c e rfl
    by_cases hc : c ∈ X.fs
    · obtain ⟨sl, q⟩ := slot c o (I.cne x c e) hc nch ho (I.freeC x c e)
      exact ⟨_, q, hd⟩
    · exact ⟨o, keep c o (I.cne x c e) hc nch ho (I.freeC x c e), hd⟩
  refine ⟨I.ok, I.os, hg, ⟨fun b o e n hb hx => ?_, fun b o e n hb hx => ?_, fun b o e n hx => ?_, fun b o e hx => ?_, fun b xs e => tups b xs (I.base.tups b xs e), fun b o xs e => frzs b o xs (I.base.frzs b o xs e), fun b ps e => ?_⟩, ?_, fun x c e => ?_, ?_, fun x c e => ?_, fun p hp => ?_, hok, I.len⟩
  · exact keep b o (neL b o e) hb (neC b o e hx) (I.base.keep b o e n hb hx) (I.base.free b o e n hx)
  · obtain ⟨sl, e1⟩ := I.base.slot b o e n hb hx
    obtain ⟨sl', e2⟩ := slot b _ (neL b o e) hb (neC b o e hx) e1 (I.base.free b o e n hx)
    exact ⟨sl', e2⟩
  · obtain ⟨o', e1⟩ := I.base.there b o e hx
    exact free b o' (neC b o e hx) e1 (I.base.free b o e n hx)
  · obtain ⟨o', e1⟩ := I.base.there b o e hx
    exact there b o' (neC b o e hx) e1
  · obtain ⟨m1, e1⟩ := I.base.tbls b ps e
    obtain ⟨m2, e2⟩ := tbls b _ e1
    exact ⟨m1 ++ m2, by rw [e2, Array.append_assoc]⟩
  · obtain ⟨m, hn, hl⟩ := I.loc
    refine ⟨m, ns m hn, fun i x v e1 e2 e3 => ?_⟩
    obtain ⟨u, r, l⟩ := hl i x v e1 e2 e3
    refine ⟨u, r, ?_⟩
    rcases l with l | ⟨k, c, e, z⟩
    · exact .inl l
    · exact .inr ⟨k, c, e, cellK x c e _ z⟩
  · obtain ⟨v, z⟩ := I.cell x c e
    exact ⟨v, cellK x c e v z⟩
  · obtain ⟨m, ⟨o, _, _, ho, _⟩, _⟩ := I.loc
    exact free _ o (fun z => (hch _ z).2.1 rfl) ho I.free
  · obtain ⟨v, o, ho, hd⟩ := I.cell x c e
    exact free c o (fun z => (hch c z).2.2.1 x c e rfl) ho (I.freeC x c e)
  · obtain ⟨e, n, ne, nf, d⟩ := I.pin p hp
    have nch : p.1 ∉ ch := fun z => (hch p.1 z).2.2.2 p hp rfl
    exact ⟨keep p.1 p.2 ne nf nch e n, free p.1 p.2 nch e n, ne, nf, d⟩
/-- .. where the frame's own object is kept too -/
theorem Inv.un {t' : Nat} (I : Inv X pins σ H s) (u : Un X.fs [] H H' s.heap h') (hok : HOk X.prog X.w H' h') : Inv X pins σ H' { s with heap := h', toks := t' } := by
  obtain ⟨m, ⟨o, es, ep, ho, r⟩, _⟩ := id I.loc
  obtain ⟨sl, hL⟩ := u.any ho I.free (by simp)
  exact I.step (g' := s.gens) (d' := s.drawn) (ch := []) (fun _ z => nomatch z) (fun b o _ hb _ e n => u.keep b o e n hb (by simp)) (fun b o _ hb _ e n => u.slot b o e n hb (by simp)) (fun b o _ e n => u.free b o e n (by simp)) (fun b o _ e => u.there b o e (by simp)) u.tups u.frzs u.tbls (fun m' hm => by
    obtain ⟨o', es', ep', ho', r'⟩ := hm
    rw [ho] at ho'; cases ho'
    exact ⟨_, es', ep', hL, r'⟩) hok I.bare
/-- behind a call (or a comprehension's block): the slots of this frame may have changed too, the records at ch may have turned -/
theorem Inv.call {g' : Array GenState} {t' : Nat} {d' : Drawn} {ch : List Addr} (I : Inv X pins σ H s) (u : Un (frs X.stack) ch H H' s.heap h') (hok : HOk X.prog X.w H' h') (hg : AllBare g')
    (hch : ∀ b ∈ ch, (b ∈ X.ex ∨ X.s₀.heap.objs.size ≤ b) ∧ b ≠ X.env.locals ∧ (∀ x c, X.env.cells.lookup x = some c → c ≠ b) ∧ ∀ p ∈ X.pn ++ pins, p.1 ≠ b) :
    Inv X pins σ H' { s with heap := h', gens := g', drawn := d', toks := t' } := by
  obtain ⟨m, ⟨o, es, ep, ho, r⟩, _⟩ := id I.loc
  obtain ⟨sl, hL⟩ := u.any ho I.free fun z => (hch _ z).2.1 rfl
  exact I.step (ch := ch) hch (fun b o hL hb hc e n => u.keep b o e n (fun z => (List.mem_cons.mp (I.stkSub b z)).elim hL hb) hc) (fun b o _ _ hc e n => u.any e n hc) (fun b o hc e n => u.free b o e n hc) (fun b o hc e => u.there b o e hc) u.tups u.frzs u.tbls (fun m' hm => by
    obtain ⟨o', es', ep', ho', r'⟩ := hm
    rw [ho] at ho'; cases ho'
    exact ⟨_, es', ep', hL, r'⟩) hok hg
/-- an untracked record of ours (an iterator) has turned -/
theorem Inv.turned {t' : Nat} {it : Addr} (I : Inv X pins σ H s) (k : ∀ b o, b ≠ it → s.heap.get? b = some o → h'.get? b = some o) (hn : H it = none) (hL : it ≠ X.env.locals)
    (h1 : it ∈ X.ex ∨ X.s₀.heap.objs.size ≤ it) (h2 : ∀ x c, X.env.cells.lookup x = some c → c ≠ it) (h3 : ∀ p ∈ X.pn ++ pins, p.1 ≠ it) : Inv X pins σ H { s with heap := h', toks := t' } := by
  have nit : ∀ b u, H b = some u → b ≠ it := fun b u e z => by rw [z, hn] at e; cases e
  refine I.step (g' := s.gens) (d' := s.drawn) (ch := [it]) (fun b hb => ?_) (fun b o _ _ hc e _ => k b o (fun z => hc (by simp [z])) e) (fun b o _ _ hc e _ => ⟨o.slots, k b o (fun z => hc (by simp [z])) e⟩) (fun _ _ _ _ n => n)
    (fun b o hc e => ⟨o, k b o (fun z => hc (by simp [z])) e⟩) (fun _ _ e => e) (fun _ _ _ e => e) (fun b ps e => ⟨#[], by rw [e]; simp⟩) (fun m hm => ?_) (fun b u e => ?_) I.bare
  · have e : b = it := by simpa using hb
    subst e
    exact ⟨h1, hL, h2, h3⟩
  · obtain ⟨o, es, ep, ho, r⟩ := hm
    exact ⟨o, es, ep, k _ o (Ne.symm hL) ho, r⟩
  · refine (I.hok b u e).stay (fun c v hc q => k c v ?_ q) (fun _ q => q) fun _ _ q => q
    rcases hc with z | z
    · rw [z]; exact nit b u e
    · exact nit c _ z
theorem Inv.tok (I : Inv X pins σ H s) (t : Nat) : Inv X pins σ H { s with toks := t } := I.un (h' := s.heap) (t' := t) Un.refl I.hok
/-- all objects kept -/
theorem Inv.kept {t' : Nat} (I : Inv X pins σ H s) (k : ∀ b u, s.heap.get? b = some u → h'.get? b = some u) : Inv X pins σ H { s with heap := h', toks := t' } := I.un (Un.kept k) (I.hok.kept k)
/-- a new object laid and tracked -/
theorem Inv.laid {a : Addr} {o : HO} {t' : Nat} (I : Inv X pins σ H s) (k : ∀ b u, s.heap.get? b = some u → h'.get? b = some u) (hp : s.heap.objs.size ≤ a) (new : ObjOk X.prog X.w (upd H a o) h' a o) :
    Inv X pins σ (upd H a o) { s with heap := h', toks := t' } := I.un (Un.laid k hp (I.hok.fresh hp)) (I.hok.laid k hp new)
/-- an object written -/
theorem Inv.write {x e : Addr} {o : HO} {t' : Nat} (I : Inv X pins σ H s) (mu : Mut (H x)) (he : e = x ∨ H e = some (.own x)) (k : ∀ b u, b ≠ e → s.heap.get? b = some u → h'.get? b = some u) (heo : ∃ u, h'.get? e = some u)
    (new : ObjOk X.prog X.w (upd H x o) h' x o) : Inv X pins σ (upd H x o) { s with heap := h', toks := t' } := I.un (Un.write mu he k heo) (I.hok.write mu he k heo new)
theorem Inv.pins_of {pins' : List (Addr × Obj)} (I : Inv X pins σ H s) (h : ∀ p ∈ pins', s.heap.get? p.1 = some p.2 ∧ H p.1 = none ∧ p.1 ≠ X.env.locals ∧ p.1 ∉ X.fs ∧ ∀ v, p.2.data ≠ .cell v) : Inv X pins' σ H s :=
  ⟨I.ok, I.os, I.bare, I.base, I.loc, I.cell, I.free, I.freeC, fun p hp => (List.mem_append.mp hp).elim (fun z => I.pin p (List.mem_append_left _ z)) (h p), I.hok, I.len⟩

theorem nodup_ix {N : List Str} (hN : N.Nodup) {i j : Nat} {x : Str} (a : N[i]? = some x) (b : N[j]? = some x) : i = j := by
  obtain ⟨h1, e1⟩ := List.getElem?_eq_some_iff.mp a
  obtain ⟨h2, e2⟩ := List.getElem?_eq_some_iff.mp b
  exact (List.getElem_inj hN).mp (e1.trans e2.symm)

/-- a name is stored; what changed -/
theorem store_ok2 {M : Model} {A : Around} {E : Value → Shared → Prop} {i : Nat} {x : Str} {v : V} {u : Value} {Q : Unit → Shared → Prop} (I : Inv X pins σ H s) (hN : X.N.Nodup) (hi : X.N[i]? = some x) (hx : Loc X.env.scope x) (r : RelV v u)
    (h : ∀ s', Inv X pins (σ.set i (some v)) H s' → (∃ a, Heap.SameBut a s.heap s'.heap ∧ (a = X.env.locals ∨ X.env.cells.lookup x = some a)) → Q () s') (hf : X.fn x = true ∨ X.env.scope.names.lookup x = some .local := by first | exact .inl rfl | exact .inr rfl | assumption) : wpAny M A (storeName X.env x u) Q E s := by
  obtain ⟨m, hn, hl⟩ := id I.loc
  have hcls : (X.env.scope.kind == .class || (X.env.scope.kind == .module && X.env.locals != X.env.globals)) = false := by rw [I.ok.kind]; rfl
  have hiσ : i < σ.length := by rw [I.len]; exact (List.getElem?_eq_some_iff.mp hi).1
  have cne := I.cne
  have tracked : ∀ {a : Addr} {h' : Heap}, (∃ o, s.heap.get? a = some o ∧ H a = none) → Heap.SameBut a s.heap h' → HOk X.prog X.w H h' := fun {a h'} ha hs b ob e => by
    obtain ⟨_, _, hfree⟩ := ha
    refine (I.hok b ob e).stay (fun c w' hc q => (hs.2 c ?_).trans q) (fun _ q => q) fun _ _ q => q
    rintro rfl
    rcases hc with rfl | hc
    · rw [hfree] at e; cases e
    · rw [hfree] at hc; cases hc
  rcases hx with hk | hk
  · refine wpAny_storeName_local hk hn (fun h' hn' hs => ?_) hcls
    obtain ⟨oL, _, _, hoL, _⟩ := id hn
    refine h _ ⟨I.ok, I.os, I.bare, ⟨fun b o e n hb hx => ?_, fun b o e n hb hx => ?_, I.base.free, fun b o e hx => ?_, I.base.tups, I.base.frzs, I.base.tbls⟩, ⟨_, hn', fun j y v' e1 e2 e3 => ?_⟩, fun y c e => ?_, I.free, I.freeC, fun p hp => ?_, tracked ⟨oL, hoL, I.free⟩ hs, by simpa using I.len⟩ ⟨_, hs, .inl rfl⟩
    · exact (hs.2 b (Nat.ne_of_lt (Nat.lt_of_lt_of_le (Heap.lt_size e) I.ok.above))).trans (I.base.keep b o e n hb hx)
    · obtain ⟨sl, e1⟩ := I.base.slot b o e n hb hx
      exact ⟨sl, (hs.2 b (Nat.ne_of_lt (Nat.lt_of_lt_of_le (Heap.lt_size e) I.ok.above))).trans e1⟩
    · obtain ⟨o', e1⟩ := I.base.there b o e hx
      exact ⟨o', (hs.2 b (Nat.ne_of_lt (Nat.lt_of_lt_of_le (Heap.lt_size e) I.ok.above))).trans e1⟩
    · by_cases hj : j = i
      · subst hj
        rw [hi] at e1; cases e1
        rw [List.getElem?_set_self hiσ] at e2
        cases e2
        exact ⟨u, r, .inl ⟨hk, by simp⟩⟩
      · rw [List.getElem?_set_ne (Ne.symm hj)] at e2
        obtain ⟨u', r', q⟩ := hl j y v' e1 e2 e3
        refine ⟨u', r', ?_⟩
        rcases q with ⟨k, e⟩ | ⟨k, c, e, z⟩
        · refine .inl ⟨k, ?_⟩
          have : y ≠ x := fun e => hj (nodup_ix hN e1 (e ▸ hi))
          simp [this, e]
        · exact .inr ⟨k, c, e, z.sameBut hs (cne y c e)⟩
    · obtain ⟨w', z⟩ := I.cell y c e
      exact ⟨w', z.sameBut hs (cne y c e)⟩
    · obtain ⟨e, n, ne, nf, d⟩ := I.pin p hp
      exact ⟨(hs.2 p.1 ne).trans e, n, ne, nf, d⟩
  · have hfn : X.fn x = true := by
      rcases hf with z | z
      · exact z
      · rw [z] at hk; cases hk
    obtain ⟨c, hc⟩ := I.ok.has x (.inl hk)
    obtain ⟨w', z⟩ := I.cell x c hc
    refine wpAny_storeName_cell I.ok.kind hk hc z (fun h' hc' hs => ?_)
    obtain ⟨oc, hoc, hocd⟩ := id z
    refine h { s with heap := h' } ⟨I.ok, I.os, I.bare, ⟨fun b o e n hb hx => ?_, fun b o e n hb hx => ?_, I.base.free, fun b o e hx => ?_, I.base.tups, I.base.frzs, I.base.tbls⟩, ⟨m, hn.sameBut hs (Ne.symm (cne x c hc)), fun j y v' e1 e2 e3 => ?_⟩, fun y c' e => ?_, I.free, I.freeC, fun p hp => ?_, tracked ⟨oc, hoc, I.freeC x c hc⟩ hs, by simpa using I.len⟩ ⟨c, hs, .inr hc⟩
    · exact (hs.2 b (Nat.ne_of_lt (Nat.lt_of_lt_of_le (Heap.lt_size e) (I.ok.cab x c hfn hc)))).trans (I.base.keep b o e n hb hx)
    · obtain ⟨sl, e1⟩ := I.base.slot b o e n hb hx
      exact ⟨sl, (hs.2 b (Nat.ne_of_lt (Nat.lt_of_lt_of_le (Heap.lt_size e) (I.ok.cab x c hfn hc)))).trans e1⟩
    · obtain ⟨o', e1⟩ := I.base.there b o e hx
      exact ⟨o', (hs.2 b (Nat.ne_of_lt (Nat.lt_of_lt_of_le (Heap.lt_size e) (I.ok.cab x c hfn hc)))).trans e1⟩
    · by_cases hj : j = i
      · subst hj
        rw [hi] at e1; cases e1
        rw [List.getElem?_set_self hiσ] at e2
        cases e2
        exact ⟨u, r, .inr ⟨.inl hk, c, hc, hc'⟩⟩
      · rw [List.getElem?_set_ne (Ne.symm hj)] at e2
        obtain ⟨u', r', q⟩ := hl j y v' e1 e2 e3
        refine ⟨u', r', ?_⟩
        rcases q with q | ⟨k, c', e, z'⟩
        · exact .inl q
        · refine .inr ⟨k, c', e, z'.sameBut hs ?_⟩
          rintro rfl
          exact hj (nodup_ix hN e1 (I.ok.inj _ _ _ e hc ▸ hi))
    · by_cases hcc : c' = c
      · subst hcc; exact ⟨_, hc'⟩
      · obtain ⟨w2, z2⟩ := I.cell y c' e
        exact ⟨w2, z2.sameBut hs hcc⟩
    · obtain ⟨e, n, ne, nf, d⟩ := I.pin p hp
      refine ⟨(hs.2 p.1 ?_).trans e, n, ne, nf, d⟩
      intro q
      rw [q, hoc] at e
      have q' : oc = p.2 := Option.some.inj e
      exact d w' (by rw [← q']; exact hocd)
theorem store_ok {M : Model} {A : Around} {E : Value → Shared → Prop} {i : Nat} {x : Str} {v : V} {u : Value} {Q : Unit → Shared → Prop} (I : Inv X pins σ H s) (hN : X.N.Nodup) (hi : X.N[i]? = some x) (hx : Loc X.env.scope x) (r : RelV v u)
    (h : ∀ s', Inv X pins (σ.set i (some v)) H s' → Q () s') (hf : X.fn x = true ∨ X.env.scope.names.lookup x = some .local := by first | exact .inl rfl | exact .inr rfl | assumption) : wpAny M A (storeName X.env x u) Q E s :=
  store_ok2 I hN hi hx r (fun s' I' _ => h s' I') hf
/-- behind a call or a block, the state as it is -/
theorem Inv.call' {s' : Shared} {ch : List Addr} (I : Inv X pins σ H s) (ho : s'.os = s.os) (u : Un (frs X.stack) ch H H' s.heap s'.heap) (hok : HOk X.prog X.w H' s'.heap) (hg : AllBare s'.gens)
    (hch : ∀ b ∈ ch, (b ∈ X.ex ∨ X.s₀.heap.objs.size ≤ b) ∧ b ≠ X.env.locals ∧ (∀ x c, X.env.cells.lookup x = some c → c ≠ b) ∧ ∀ p ∈ X.pn ++ pins, p.1 ≠ b) : Inv X pins σ H' s' := by
  obtain ⟨h', g', d', t', o'⟩ := s'
  have e : o' = s.os := ho
  subst e
  exact I.call (g' := g') (t' := t') (d' := d') u hok hg hch
end

/-! ### the judgements -/
/-- an exception: its class, its own dict's address (where it has one), the abstract heap behind it -/
abbrev XK := Value → Option Addr → Hp → Prop
abbrev St := List (Option V)
abbrev VK := V → Hp → Prop
/-- an expression's reading; a test's; an argument list's -/
abbrev TE := St → Hp → VK → Prop
abbrev TT := St → Hp → (Bool → Hp → Prop) → Prop
abbrev TA := St → Hp → (List V → Hp → Prop) → Prop
/-- what is wanted behind a statement -/
structure Ends where
  nx : St → Hp → Prop
  rt : VK
  bk : St → Hp → Prop := fun _ _ => False
  ct : St → Hp → Prop := fun _ _ => False
abbrev TS := Ends → St → Hp → Prop

def EP (X : Cx) (pins : List (Addr × Obj)) (σ : St) (Q : VK) (u : Value) (s' : Shared) : Prop := ∃ v H', Inv X pins σ H' s' ∧ RelV v u ∧ Q v H'
def TP (X : Cx) (pins : List (Addr × Obj)) (σ : St) (Q : Bool → Hp → Prop) (b : Bool) (s' : Shared) : Prop := ∃ H', Inv X pins σ H' s' ∧ Q b H'
def AP (X : Cx) (pins : List (Addr × Obj)) (σ : St) (Q : List V → Hp → Prop) (us : List Value) (s' : Shared) : Prop := ∃ vs H', Inv X pins σ H' s' ∧ Vals vs us ∧ Q vs H'
def SP (X : Cx) (pins : List (Addr × Obj)) (D : Ends) (f : Flow) (s' : Shared) : Prop :=
  match f with
  | .next => ∃ σ' H', Inv X pins σ' H' s' ∧ D.nx σ' H'
  | .brk => ∃ σ' H', Inv X pins σ' H' s' ∧ D.bk σ' H'
  | .cont => ∃ σ' H', Inv X pins σ' H' s' ∧ D.ct σ' H'
  | .ret u => ∃ v σ' H', Inv X pins σ' H' s' ∧ RelV v u ∧ D.rt v H'

def PE (X : Cx) (e : Expr) (t : TE) : Prop :=
  ∀ (pins : List (Addr × Obj)) (s : Shared) (σ : St) (H : Hp) (Q : VK), Inv X pins σ H s → t σ H Q → wpAny (model X.prog X.w) X.A (eval e X.env) (EP X pins σ Q) X.xe s
def PT (X : Cx) (e : Expr) (t : TT) : Prop :=
  ∀ (pins : List (Addr × Obj)) (s : Shared) (σ : St) (H : Hp) (Q : Bool → Hp → Prop), Inv X pins σ H s → t σ H Q → wpAny (model X.prog X.w) X.A (isTrue e X.env (eval e X.env)) (TP X pins σ Q) X.xe s
/-- a test whatever its 'whole' is (and, or) -/
def PW (X : Cx) (e : Expr) (t : TT) : Prop :=
  ∀ (whole : Sem Value) (pins : List (Addr × Obj)) (s : Shared) (σ : St) (H : Hp) (Q : Bool → Hp → Prop), Inv X pins σ H s → t σ H Q → wpAny (model X.prog X.w) X.A (isTrue e X.env whole) (TP X pins σ Q) X.xe s
theorem PW.pt {X : Cx} {e : Expr} {t : TT} (h : PW X e t) : PT X e t := h _
/-- an argument list (no star), from the left -/
def PA (X : Cx) (es : List Expr) (t : TA) : Prop :=
  ∀ (pos : Pos) (pins : List (Addr × Obj)) (s : Shared) (σ : St) (H : Hp) (Q : List V → Hp → Prop), Inv X pins σ H s → t σ H Q → wpAny (model X.prog X.w) X.A (spliced (backTo pos (starEach es X.env))) (AP X pins σ Q) X.xe s
def PS (X : Cx) (st : Stmt) (t : TS) : Prop :=
  ∀ (pins : List (Addr × Obj)) (s : Shared) (σ : St) (H : Hp) (D : Ends), Inv X pins σ H s → t D σ H → wpAny (model X.prog X.w) X.A (exec st X.env) (SP X pins D) X.xe s
def PSs (X : Cx) (st : List Stmt) (t : TS) : Prop :=
  ∀ (pins : List (Addr × Obj)) (s : Shared) (σ : St) (H : Hp) (D : Ends), Inv X pins σ H s → t D σ H → wpAny (model X.prog X.w) X.A (execs st X.env) (SP X pins D) X.xe s
/-- weaken the end -/
theorem thn {α : Type} {t : Sem α} {Q Q' : α → Shared → Prop} {M : Model} {A : Around} {E : Value → Shared → Prop} {s : Shared} (h : wpAny M A t Q E s) (hQ : ∀ a s, Q a s → Q' a s) : wpAny M A t Q' E s := wpAny_mono h hQ fun _ _ x => x
end L2

namespace L2
open PySem PySem.Spec PyProof.Rows
section
variable {X : Cx}

/-! ### names and constants -/
def tVar (i : Nat) : TE := fun σ H Q => ∃ v, σ[i]? = some (some v) ∧ Q v H
def tC (v : V) : TE := fun _ H Q => Q v H
theorem pe_var {i : Nat} {x : Str} {pos : Pos} (hN : X.N[i]? = some x) (hv : Vis X.env.scope x) (hd : (x == ("__debug__" : Str)) = false := by decide) (hcd : (x == ("__classdict__" : Str)) = false := by decide) : PE X (.Name x pos) (tVar i) := by
  intro pins s σ H Q I h
  obtain ⟨v, e, h⟩ := h
  obtain ⟨m, hn, hl⟩ := I.loc
  obtain ⟨u, r, l⟩ := hl i x v hN e hv
  have fin : EP X pins σ Q u s := ⟨v, H, I, r, h⟩
  rcases l with ⟨hk, hm⟩ | ⟨hk, c, hc, hcell⟩
  · exact wpAny_Name (wpAny_loadName_local I.ok.kind hk hn hm fin) hd
  · rcases hk with hk | hk
    · exact wpAny_Name (wpAny_loadName_cell I.ok.kind hk hc hcell fin) hd
    · exact wpAny_Name (wpAny_loadName_free I.ok.kind hk hc hcell fin hcd) hd
theorem pe_int {i j pos} : PE X (.Constant (.int i) j pos) (tC (.int i)) := fun _ _ _ H _ I h => wpAny_Constant_int ⟨.int i, H, I.tok _, ⟨_, rfl⟩, h⟩
theorem pe_bl {b j pos} : PE X (.Constant (.bool b) j pos) (tC (.bl b)) := fun _ _ _ H _ I h => Constant_bool ⟨.bl b, H, I, rfl, h⟩
theorem pe_non {j pos} : PE X (.Constant .none j pos) (tC .non) := fun _ _ _ H _ I h => Constant_none ⟨.non, H, I, rfl, h⟩
theorem pe_str {x j pos} : PE X (.Constant (.str x) j pos) (tC (.str x)) := fun _ _ _ H _ I h => Calls.Constant_str ⟨.str x, H, I.tok _, ⟨_, rfl⟩, h⟩

/-- a global name of the def -/
def Gl (X : Cx) (x : Str) : Prop := X.env.kindOf x = some .globalImplicit
theorem ld_glob {E : Value → Shared → Prop} {pins : List (Addr × Obj)} {s : Shared} {σ : St} {H : Hp} {x : Str} {u : Value} {pos : Pos} {Q : Value → Shared → Prop} (I : Inv X pins σ H s) (hg : Gl X x) (hm : X.mg x = some u) (h : Q u s)
    (hd : (x == ("__debug__" : Str)) = false := by decide) : wpAny (model X.prog X.w) X.A (eval (.Name x pos) X.env) Q E s :=
  Calls.Name_function_global I.ok.kind hg (Calls.loadGlobal_global (by rw [I.ok.glob]; exact I.mod.glob.keeps I.bk) hm h) hd
theorem ld_blt {E : Value → Shared → Prop} {pins : List (Addr × Obj)} {s : Shared} {σ : St} {H : Hp} {x : Str} {u : Value} {pos : Pos} {Q : Value → Shared → Prop} (I : Inv X pins σ H s) (hg : Gl X x) (hm : X.mg x = none) (hv : bootBuiltins x = some u) (h : Q u s)
    (hn : x ≠ "__name__" := by decide) (hd : (x == ("__debug__" : Str)) = false := by decide) : wpAny (model X.prog X.w) X.A (eval (.Name x pos) X.env) Q E s := by
  obtain ⟨mb, h1, h2⟩ := I.mod.blt
  exact Calls.Name_function_global I.ok.kind hg (Calls.loadGlobal_builtin (by rw [I.ok.glob]; exact I.mod.glob.keeps I.bk) hm (by rw [I.ok.blt]; exact h1.keeps I.bk) ((h2 x hn).trans hv) h) hd
/-- a module's constant, a class, a function, as a value -/
theorem pe_glob {x : Str} {v : V} {u : Value} {pos : Pos} (hg : Gl X x) (hm : X.mg x = some u) (r : RelV v u) (hd : (x == ("__debug__" : Str)) = false := by decide) : PE X (.Name x pos) (tC v) :=
  fun _ _ _ H _ I h => ld_glob I hg hm ⟨v, H, I, r, h⟩ hd
theorem pe_bltn {x : Str} {v : V} {u : Value} {pos : Pos} (hg : Gl X x) (hm : X.mg x = none) (hv : bootBuiltins x = some u) (r : RelV v u) (hn : x ≠ "__name__" := by decide) (hd : (x == ("__debug__" : Str)) = false := by decide) : PE X (.Name x pos) (tC v) :=
  fun _ _ _ H _ I h => ld_blt I hg hm hv ⟨v, H, I, r, h⟩ hn hd

/-! ### arithmetic -/
/-- two ints -/
def t2I (ta tb : TE) (k : Int → Int → Hp → Prop) : St → Hp → Prop := fun σ H => ta σ H fun x H1 => tb σ H1 fun y H2 => ∃ i j, x = .int i ∧ y = .int j ∧ k i j H2
def tAdd (ta tb : TE) : TE := fun σ H Q => t2I ta tb (fun i j H2 => Q (.int (i + j)) H2) σ H
def tSub (ta tb : TE) : TE := fun σ H Q => t2I ta tb (fun i j H2 => Q (.int (i - j)) H2) σ H
/-- the left factor below 2^64 -/
def tMul (ta tb : TE) : TE := fun σ H Q => t2I ta tb (fun i j H2 => (-(2 ^ 64) < i ∧ i < 2 ^ 64) ∧ Q (.int (i * j)) H2) σ H
variable {a b : Expr} {ta tb : TE} {pos : Pos}
/-! ### comparisons -/
def PC (X : Cx) (op : CmpOp) (a b : Expr) (t : TE) : Prop :=
  ∀ (pins : List (Addr × Obj)) (s : Shared) (σ : St) (H : Hp) (Q : VK), Inv X pins σ H s → t σ H Q →
    wpAny (model X.prog X.w) X.A (eval a X.env) (fun v s₁ => wpAny (model X.prog X.w) X.A (eval b X.env) (fun u s₂ => wpAny (model X.prog X.w) X.A (compareOp op v u) (EP X pins σ Q) X.xe s₂) X.xe s₁) X.xe s
def tCmp (p : Int → Int → Bool) (ta tb : TE) : TE := fun σ H Q => t2I ta tb (fun i j H2 => Q (.bl (p i j)) H2) σ H
abbrev tLt : TE → TE → TE := tCmp fun i j => decide (i < j)
abbrev tLe : TE → TE → TE := tCmp fun i j => decide (i ≤ j)
abbrev tGt : TE → TE → TE := tCmp fun i j => decide (j < i)
abbrev tGe : TE → TE → TE := tCmp fun i j => decide (j ≤ i)
abbrev tEqI : TE → TE → TE := tCmp fun i j => decide (i = j)
abbrev tNeI : TE → TE → TE := tCmp fun i j => !decide (i = j)
/-- is None -/
def tIsN (ta : TE) : TE := fun σ H Q => ta σ H fun x H1 => Q (.bl (decide (x = .non))) H1
def tNotN (ta : TE) : TE := fun σ H Q => ta σ H fun x H1 => Q (.bl (!decide (x = .non))) H1
/-- a comparison as a value, as a test -/
def tB (t : TE) : TT := fun σ H Q => t σ H fun x H1 => ∃ c, x = .bl c ∧ Q c H1
/-- an expression whose value is a bool, as a test -/
theorem pt_val {e : Expr} {t : TE} (h : PE X e t) (he : ∀ whole, isTrue e X.env whole = (do let v ← whole; standAt e.pos; holding [v] (truthy v)) := by intro _; rfl) : PT X e (tB t) := by
  intro pins s σ H Q I hw
  refine isTrue_plain (thn (h pins s σ H _ I hw) fun v s1 ⟨x, H1, I1, r1, q1⟩ => ?_) (he _)
  obtain ⟨d, rfl, q⟩ := q1
  cases r1
  exact wpAny_truthy_bool ⟨H1, I1, q⟩

/-! ### and, or, not -/
variable {tA tB' : TT} {rest : List Expr}
def tAnd (t u : TT) : TT := fun σ H Q => t σ H fun c H1 => if c = true then u σ H1 Q else Q false H1
def tOr (t u : TT) : TT := fun σ H Q => t σ H fun c H1 => if c = true then Q true H1 else u σ H1 Q
def tNot (t : TT) : TT := fun σ H Q => t σ H fun c H1 => Q (!c) H1
theorem pw_and1 (ha : PT X a tA) : PW X (.BoolOp .And [a] pos) tA := by
  intro wh pins s σ H Q I h
  refine isTrue_and (thn (ha pins s σ H Q I h) fun c s1 e => ?_)
  cases c with
  | true => exact isTrue_and_nil e
  | false => exact e
theorem pw_or1 (ha : PT X a tA) : PW X (.BoolOp .Or [a] pos) tA := by
  intro wh pins s σ H Q I h
  refine isTrue_or (thn (ha pins s σ H Q I h) fun c s1 e => ?_)
  cases c with
  | false => exact isTrue_or_nil e
  | true => exact e
theorem pw_and (ha : PT X a tA) (hb : PW X (.BoolOp .And (b :: rest) pos) tB') : PW X (.BoolOp .And (a :: b :: rest) pos) (tAnd tA tB') := by
  intro wh pins s σ H Q I h
  refine isTrue_and (thn (ha pins s σ H _ I h) fun c s1 ⟨H1, I1, q1⟩ => ?_)
  cases c with
  | true => exact hb wh pins s1 σ H1 Q I1 q1
  | false => exact ⟨H1, I1, q1⟩
theorem pw_or (ha : PT X a tA) (hb : PW X (.BoolOp .Or (b :: rest) pos) tB') : PW X (.BoolOp .Or (a :: b :: rest) pos) (tOr tA tB') := by
  intro wh pins s σ H Q I h
  refine isTrue_or (thn (ha pins s σ H _ I h) fun c s1 ⟨H1, I1, q1⟩ => ?_)
  cases c with
  | true => exact ⟨H1, I1, q1⟩
  | false => exact hb wh pins s1 σ H1 Q I1 q1
theorem pt_not (ha : PT X a tA) : PT X (.UnaryOp .Not a pos) (tNot tA) := by
  intro pins s σ H Q I h
  exact isTrue_not (ha pins s σ H (fun c H1 => Q (!c) H1) I h)
/-- .. as values (bools) -/
def tAndV (ta tb : TE) : TE := fun σ H Q => ta σ H fun x H1 => ∃ c, x = .bl c ∧ if c = true then tb σ H1 Q else Q (.bl false) H1
def tOrV (ta tb : TE) : TE := fun σ H Q => ta σ H fun x H1 => ∃ c, x = .bl c ∧ if c = true then Q (.bl true) H1 else tb σ H1 Q
def tNotV (ta : TE) : TE := fun σ H Q => ta σ H fun x H1 => ∃ c, x = .bl c ∧ Q (.bl (!c)) H1
theorem pe_one {op} {t : TE} (h : PE X a t) : PE X (.BoolOp op [a] pos) t := fun pins s σ H Q I hw => BoolOp_one (h pins s σ H Q I hw)
theorem pe_and (ha : PE X a ta) (hb : PE X (.BoolOp .And (b :: rest) pos) tb) : PE X (.BoolOp .And (a :: b :: rest) pos) (tAndV ta tb) := by
  intro pins s σ H Q I h
  refine BoolOp_and (thn (ha pins s σ H _ I h) fun v s1 ⟨x, H1, I1, r1, q1⟩ => ?_)
  obtain ⟨c, rfl, q1⟩ := q1
  cases r1
  refine wpAny_truthy_bool ?_
  cases c with
  | true => exact hb pins s1 σ H1 Q I1 q1
  | false => exact ⟨.bl false, H1, I1, rfl, q1⟩
theorem pe_not (ha : PE X a ta) : PE X (.UnaryOp .Not a pos) (tNotV ta) := by
  intro pins s σ H Q I h
  refine UnaryOp_ (thn (ha pins s σ H _ I h) fun v s1 ⟨x, H1, I1, r1, q1⟩ => ?_)
  obtain ⟨c, rfl, q1⟩ := q1
  cases r1
  exact not_of (wpAny_truthy_bool ⟨.bl (!c), H1, I1, rfl, q1⟩)
/-- a if t else b -/
def tIf (t : TT) (ta tb : TE) : TE := fun σ H Q => t σ H fun c H1 => if c = true then ta σ H1 Q else tb σ H1 Q
end
end L2

namespace L2
open PySem PySem.Spec PyProof.Rows

/-! ### a list, a tuple that is read: tracked, frozen, or an object of the module -/
def SqL (K : PySem.W.Frag) (H : Hp) (a : Addr) (xs : List V) : Prop :=
  Rd H a (.lst xs) ∨
    ∃ (o : Obj) (its : Array Value) (n : Nat), K.lookup a = some o ∧ o.cls = .type "list" ∧ o.dict = none ∧ o.data = .seq its n ∧ its.size ≤ sizeLine ∧ Vals xs its.toList
def SqT (K : PySem.W.Frag) (H : Hp) (a : Addr) (xs : List V) : Prop :=
  Rd H a (.tup xs) ∨
    ∃ (o : Obj) (its : Array Value) (n : Nat), K.lookup a = some o ∧ o.cls = .type "tuple" ∧ o.data = .seq its n ∧ its.size ≤ sizeLine ∧ Vals xs its.toList
def absV : Value → Option V
  | .none => some .non
  | .bool b => some (.bl b)
  | .int i _ => some (.int i)
  | .str x _ => some (.str x)
  | .bytes b _ => some (.byt b)
  | .float b _ => some (.flt b)
  | .ref a => some (.ref a)
  | .type n => some (.ty n)
  | _ => none
theorem RelV.abs {x : V} {u : Value} (r : RelV x u) : absV u = some x := by
  cases x with
  | non => cases r; rfl
  | bl _ => cases r; rfl
  | int _ => obtain ⟨t, rfl⟩ := r; rfl
  | str _ => obtain ⟨t, rfl⟩ := r; rfl
  | byt _ => obtain ⟨t, rfl⟩ := r; rfl
  | flt _ => obtain ⟨t, rfl⟩ := r; rfl
  | ref _ => cases r; rfl
  | ty _ => cases r; rfl
theorem RelV.inj {x y : V} {u : Value} (r : RelV x u) (q : RelV y u) : x = y := Option.some.inj (r.abs.symm.trans q.abs)
theorem Vals.inj : ∀ {xs ys : List V} {us : List Value}, Vals xs us → Vals ys us → xs = ys
  | _, _, _, .nil, .nil => rfl
  | _, _, _, .cons r t, .cons r' t' => by rw [r.inj r', Vals.inj t t']
section
variable {X : Cx} {pins : List (Addr × Obj)} {σ : St} {H : Hp} {s : Shared} {a : Addr} {xs ys : List V}
theorem SqL.of {K : PySem.W.Frag} (h : H a = some (.lst xs)) : SqL K H a xs := .inl (.inl h)
theorem SqT.of {K : PySem.W.Frag} (h : H a = some (.tup xs)) : SqT K H a xs := .inl (.inl h)
theorem Inv.list (I : Inv X pins σ H s) (h : SqL X.K H a xs) : ∃ its : List Value, Vals xs its ∧ PlainL s.heap a its.toArray ∧ xs.length ≤ sizeLine := by
  rcases h with h | ⟨o, its, n, hk, hc, hd, hs, hz, r⟩
  · obtain ⟨z, its, n, r, e⟩ := h.ok I.hok
    exact ⟨its, r, ⟨_, n, e, rfl, rfl, rfl⟩, z⟩
  · refine ⟨its.toList, r, ⟨o, n, I.kIn a o hk, hc, hd, by simpa using hs⟩, ?_⟩
    have e := r.length
    simp only [Array.length_toList] at e
    omega
theorem Inv.tuple (I : Inv X pins σ H s) (h : SqT X.K H a xs) : ∃ its : List Value, Vals xs its ∧ IsTup s.heap a its.toArray ∧ xs.length ≤ sizeLine := by
  rcases h with h | ⟨o, its, n, hk, hc, hs, hz, r⟩
  · obtain ⟨z, its, r, p⟩ := h.ok I.hok
    exact ⟨its, r, p, z⟩
  · refine ⟨its.toList, r, ⟨o, I.kIn a o hk, hc, n, by simpa using hs⟩, ?_⟩
    have e := r.length
    simp only [Array.length_toList] at e
    omega
theorem Inv.list_inj (I : Inv X pins σ H s) (h : SqL X.K H a xs) (h' : SqL X.K H a ys) : xs = ys := by
  obtain ⟨its, r, ⟨o, n, e, _, _, d⟩, _⟩ := I.list h
  obtain ⟨its', r', ⟨o', n', e', _, _, d'⟩, _⟩ := I.list h'
  rw [e] at e'; cases e'
  rw [d] at d'
  injection d' with d1 _
  have : its = its' := by simpa using congrArg Array.toList d1
  subst this
  exact r.inj r'
end

/-! ### another wish about exceptions -/
abbrev Cx.wish (X : Cx) (E : Value → Shared → Prop) : Cx := { X with xe := E }
/-- no exception leaves -/
abbrev Cx.nox (X : Cx) : Cx := X.wish fun _ _ => False
theorem Cx.Ok.wish {X : Cx} (ok : X.Ok) (E : Value → Shared → Prop) : (X.wish E).Ok :=
  ⟨ok.mod, ok.kind, ok.glob, ok.blt, ok.above, ok.inj, ok.has, ok.cab, ok.hd, ok.frames, ok.stk, ok.exf, ok.bs, ok.bsz, ok.noex, ok.exfs, ok.funs, ok.frf⟩
theorem Cx.Ok.unwish {X : Cx} {E : Value → Shared → Prop} (ok : (X.wish E).Ok) : X.Ok :=
  ⟨ok.mod, ok.kind, ok.glob, ok.blt, ok.above, ok.inj, ok.has, ok.cab, ok.hd, ok.frames, ok.stk, ok.exf, ok.bs, ok.bsz, ok.noex, ok.exfs, ok.funs, ok.frf⟩
section
variable {X : Cx} {pins : List (Addr × Obj)} {σ : St} {H : Hp} {s : Shared} {E : Value → Shared → Prop}
theorem Inv.wish (I : Inv X pins σ H s) (E : Value → Shared → Prop) : Inv (X.wish E) pins σ H s := ⟨I.ok.wish E, I.os, I.bare, I.base, I.loc, I.cell, I.free, I.freeC, I.pin, I.hok, I.len⟩
theorem Inv.unwish (I : Inv (X.wish E) pins σ H s) : Inv X pins σ H s := ⟨I.ok.unwish, I.os, I.bare, I.base, I.loc, I.cell, I.free, I.freeC, I.pin, I.hok, I.len⟩
theorem SP.unwish {D : Ends} {f : Flow} {s' : Shared} (h : SP (X.wish E) pins D f s') : SP X pins D f s' := by
  cases f with
  | next => obtain ⟨σ', H', I, q⟩ := h; exact ⟨σ', H', I.unwish, q⟩
  | brk => obtain ⟨σ', H', I, q⟩ := h; exact ⟨σ', H', I.unwish, q⟩
  | cont => obtain ⟨σ', H', I, q⟩ := h; exact ⟨σ', H', I.unwish, q⟩
  | ret u => obtain ⟨v, σ', H', I, r, q⟩ := h; exact ⟨v, σ', H', I.unwish, r, q⟩
theorem PSs.nox {st : List Stmt} {t : TS} (h : PSs X.nox st t) : PSs X st t := fun pins s σ H D I hw =>
  wpAny_mono (h pins s σ H D (I.wish _) hw) (fun _ _ q => q.unwish) fun _ _ z => False.elim z
end

/-! ### blocks and small statements -/
section
variable {X : Cx} {st : Stmt} {rest : List Stmt} {t u : TS} {e : Expr} {te : TE} {pos : Pos}
def tNext : TS := fun D σ H => D.nx σ H
def tSeq (t u : TS) : TS := fun D σ H => t { D with nx := u D } σ H
theorem pss_nil : PSs X [] tNext := fun _ _ σ H _ I h => wpAny_execs_nil ⟨σ, H, I, h⟩
theorem pss_cons (h1 : PS X st t) (h2 : PSs X rest u) : PSs X (st :: rest) (tSeq t u) := by
  intro pins s σ H D I h
  refine wpAny_execs_cons (thn (h1 pins s σ H { D with nx := u D } I h) fun f s1 q => ?_)
  cases f with
  | next =>
    obtain ⟨σ', H', I', q⟩ := q
    exact h2 pins s1 σ' H' D I' q
  | ret v => exact q
  | brk => exact q
  | cont => exact q
theorem pss_one (h1 : PS X st t) : PSs X [st] t := by
  intro pins s σ H D I h
  refine wpAny_execs_cons (thn (h1 pins s σ H D I h) fun f s1 q => ?_)
  cases f with
  | next => exact wpAny_execs_nil q
  | ret v => exact q
  | brk => exact q
  | cont => exact q
def tBreak : TS := fun D σ H => D.bk σ H
def tCont : TS := fun D σ H => D.ct σ H
/-- in a def's body nothing is shown -/
theorem Inv.quiet {pins : List (Addr × Obj)} {σ : St} {H : Hp} {s : Shared} (I : Inv X pins σ H s) : interactive X.env = false := by simp [interactive, I.ok.kind]
/-- an expression whose value is dropped -/
def tDrop (te : TE) : TS := fun D σ H => te σ H fun _ H1 => D.nx σ H1
theorem ps_expr (he : PE X e te) (hs : swapsWith e none pos.line X.env = pure false := by rfl) : PS X (.Expr e pos) (tDrop te) := by
  intro pins s σ H D I h
  exact wpAny_Expr_any (thn (he pins s σ H _ I h) fun v s1 ⟨x, H1, I1, r1, q1⟩ => ⟨σ, H1, I1, q1⟩) I.quiet hs
def tRet (te : TE) : TS := fun D σ H => te σ H D.rt
theorem ps_ret (he : PE X e te) : PS X (.Return (some e) pos) (tRet te) := by
  intro pins s σ H D I h
  exact wpAny_Return_some (thn (he pins s σ H _ I h) fun v s1 ⟨x, H1, I1, r1, q1⟩ => ⟨x, σ, H1, I1, r1, q1⟩)
def tRetN : TS := fun D _ H => D.rt .non H
def tIfS (c : TT) (t u : TS) : TS := fun D σ H => c σ H fun b H1 => if b = true then t D σ H1 else u D σ H1
theorem ps_if {c : Expr} {a b : List Stmt} {tc : TT} (hc : PT X c tc) (ha : PSs X a t) (hb : PSs X b u) : PS X (.If c a b pos) (tIfS tc t u) := by
  intro pins s σ H D I h
  refine wpAny_If (thn (hc pins s σ H _ I h) fun d s1 ⟨H1, I1, q1⟩ => ?_)
  cases d with
  | true => exact ha pins s1 σ H1 D I1 q1
  | false => exact hb pins s1 σ H1 D I1 q1
/-- code that the proof never comes to -/
def tNever : TS := fun _ _ _ => False
end

/-! ### targets -/
abbrev TG := V → St → Hp → (St → Hp → Prop) → Prop
abbrev TGs := List V → St → Hp → (St → Hp → Prop) → Prop
def PG (X : Cx) (target : Expr) (t : TG) : Prop :=
  ∀ (pins : List (Addr × Obj)) (s : Shared) (σ : St) (H : Hp) (v : V) (u : Value) (Q : St → Hp → Prop), Inv X pins σ H s → RelV v u → t v σ H Q →
    wpAny (model X.prog X.w) X.A (assign target X.env u) (fun _ s' => ∃ σ' H', Inv X pins σ' H' s' ∧ Q σ' H') X.xe s
/-- several targets, one after another -/
def PGs (X : Cx) (ts : List Expr) (t : TGs) : Prop :=
  ∀ (pins : List (Addr × Obj)) (s : Shared) (σ : St) (H : Hp) (vs : List V) (us : List Value) (Q : St → Hp → Prop), Inv X pins σ H s → Vals vs us → t vs σ H Q →
    wpAny (model X.prog X.w) X.A (assignInOrder ((assignEach ts X.env).map (·.2)) us) (fun _ s' => ∃ σ' H', Inv X pins σ' H' s' ∧ Q σ' H') X.xe s
/-- o[i] = v, by values -/
abbrev TSet := V → V → V → Hp → (Hp → Prop) → Prop
def PSet (X : Cx) (t : TSet) : Prop :=
  ∀ (pins : List (Addr × Obj)) (s : Shared) (σ : St) (H : Hp) (o i v : V) (ov iv u : Value) (Q : Hp → Prop), Inv X pins σ H s → RelV o ov → RelV i iv → RelV v u → t o i v H Q →
    wpAny (model X.prog X.w) X.A (setItem ov iv u) (fun _ s' => ∃ H', Inv X pins σ H' s' ∧ Q H') X.xe s
/-- a op= b, by values -/
abbrev TIp := V → V → Hp → VK → Prop
def PIp (X : Cx) (op : Operator) (t : TIp) : Prop :=
  ∀ (pins : List (Addr × Obj)) (s : Shared) (σ : St) (H : Hp) (x y : V) (v u : Value) (Q : VK), Inv X pins σ H s → RelV x v → RelV y u → t x y H Q →
    wpAny (model X.prog X.w) X.A (inplaceOp op v u) (EP X pins σ Q) X.xe s
section
variable {X : Cx} {pos : Pos}
def gName (i : Nat) : TG := fun v σ H Q => Q (σ.set i (some v)) H
theorem pg_name {i : Nat} {x : Str} (hN : X.N.Nodup) (hi : X.N[i]? = some x) (hx : Loc X.env.scope x) (hf : X.fn x = true ∨ X.env.scope.names.lookup x = some .local := by first | exact .inl rfl | exact .inr rfl | assumption) : PG X (.Name x pos) (gName i) := by
  intro pins s σ H v u Q I r h
  exact wpAny_assign_Name (store_ok I hN hi hx r (fun s' I' => ⟨_, H, I', h⟩) hf)
def gNil : TGs := fun vs σ H Q => vs = [] ∧ Q σ H
def gCons (t : TG) (u : TGs) : TGs := fun vs σ H Q => ∃ v r, vs = v :: r ∧ t v σ H fun σ' H' => u r σ' H' Q
theorem pgs_nil : PGs X [] gNil := by
  intro pins s σ H vs us Q I r h
  obtain ⟨e, h⟩ := h
  subst e
  cases r
  exact assignInOrder_nil ⟨σ, H, I, h⟩
theorem pgs_cons {e : Expr} {es : List Expr} {t : TG} {u : TGs} (h1 : PG X e t) (h2 : PGs X es u)
    (hs : (assignEach (e :: es) X.env).map (·.2) = assign e X.env :: (assignEach es X.env).map (·.2) := by rfl) : PGs X (e :: es) (gCons t u) := by
  intro pins s σ H vs us Q I r h
  obtain ⟨v, vr, e1, h⟩ := h
  subst e1
  cases r with
  | cons r rr =>
    rw [hs]
    refine assignInOrder_cons (thn (h1 pins s σ H _ _ _ I r h) fun _ s1 ⟨σ1, H1, I1, q1⟩ => ?_)
    exact h2 pins s1 σ1 H1 _ _ Q I1 rr q1
/-- (a, b, ..) = a tuple of that length -/
def gTup (K : PySem.W.Frag) (n : Nat) (t : TGs) : TG := fun v σ H Q => ∃ a xs, v = .ref a ∧ SqT K H a xs ∧ xs.length = n ∧ t xs σ H Q
theorem pg_tup {es : List Expr} {k : Nat} {t : TGs} {n : Nat} (hc : X.calm = true) (h : PGs X es t)
    (hn : (assignEach es X.env).length = n := by rfl) (hst : (assignEach es X.env).findIdx? (·.1) = none := by rfl) : PG X (.Tuple es k pos) (gTup X.K n t) := by
  intro pins s σ H v u Q I r hw
  obtain ⟨a, xs, e1, hq, hl, hw⟩ := hw
  subst e1
  cases r
  obtain ⟨its, rv, ht, hz⟩ := I.tuple hq
  refine assign_Tuple_tuple (I.ok.hd hc) ht (by simp [hn, ← hl, rv.length]) hst fun h' hx => ?_
  have I1 : Inv X pins σ H { s with heap := h' } := I.kept (t' := s.toks) fun b o e => hx b o (Nat.ne_of_lt (Heap.lt_size e)) e
  exact h pins _ σ H xs _ Q I1 (by simpa using rv) hw
/-- o[i] = .. -/
def gSub (to ti : TE) (t : TSet) : TG := fun v σ H Q => to σ H fun o H1 => ti σ H1 fun i H2 => t o i v H2 fun H3 => Q σ H3
theorem pg_sub {o i : Expr} {to ti : TE} {t : TSet} (ho : PE X o to) (hi : PE X i ti) (hs : PSet X t)
    (ha : ∀ v, assign (.Subscript o i pos) X.env v = (do
      let ov ← holding [v] (eval o X.env)
      let iv ← holding [v, ov] (eval i X.env)
      standAt pos
      holding [v, ov, iv] (setItem ov iv v)
      release [v, ov, iv] []) := by intro _; rfl) : PG X (.Subscript o i pos) (gSub to ti t) := by
  intro pins s σ H v u Q I r h
  rw [ha]
  refine wpAny_bind (wpAny_holding (thn (ho pins s σ H _ I h) fun ov s1 ⟨x, H1, I1, r1, q1⟩ => ?_))
  refine wpAny_bind (wpAny_holding (thn (hi pins s1 σ H1 _ I1 q1) fun iv s2 ⟨y, H2, I2, r2, q2⟩ => ?_))
  refine wpAny_bind (wpAny_standAt (wpAny_bind (wpAny_holding (thn (hs pins s2 σ H2 x y v ov iv u _ I2 r1 r2 r q2) fun _ s3 ⟨H3, I3, q3⟩ => ?_))))
  exact wpAny_release ⟨σ, H3, I3, q3⟩
/-- target = value -/
def tAsg (te : TE) (g : TG) : TS := fun D σ H => te σ H fun x H1 => g x σ H1 D.nx
theorem ps_asg {tg e : Expr} {te : TE} {g : TG} (he : PE X e te) (hg : PG X tg g) (hs : swapsWithSole [tg] e pos.line X.env = pure false := by rfl) (hw : swappedStores [tg] e X.env = pure none := by rfl)
    (h1 : (assignEach [tg] X.env).map (·.2) = [assign tg X.env] := by rfl) : PS X (.Assign [tg] e pos) (tAsg te g) := by
  intro pins s σ H D I h
  refine wpAny_Assign_stores (thn (he pins s σ H _ I h) fun v s1 ⟨x, H1, I1, r1, q1⟩ => ?_) hs hw
  rw [h1]
  exact thn (hg pins s1 σ H1 x v _ I1 r1 q1) fun _ s2 q => q
/-- name = value -/
theorem ps_set {i : Nat} {x : Str} {e : Expr} {te : TE} {pos' : Pos} (hN : X.N.Nodup) (hi : X.N[i]? = some x) (hx : Loc X.env.scope x) (he : PE X e te) (hs : swapsWith e (some (.Name x pos')) pos.line X.env = pure false := by rfl) (hf : X.fn x = true ∨ X.env.scope.names.lookup x = some .local := by first | exact .inl rfl | exact .inr rfl | assumption) :
    PS X (.Assign [.Name x pos'] e pos) (tAsg te (gName i)) := by
  intro pins s σ H D I h
  refine wpAny_Assign_Name (thn (he pins s σ H _ I h) fun v s1 ⟨y, H1, I1, r1, q1⟩ => ?_) hs
  exact store_ok I1 hN hi hx r1 (fun s2 I2 => ⟨_, H1, I2, q1⟩) hf
/-- a, b = x, y with plain local names: stored from the right; the pair itself is not tracked (the opening rows as in PyProof/Rows/TupAssign.lean:23) -/
def tPar (i j : Nat) (ta : TA) : TS := fun D σ H => ta σ H fun vs H1 => ∃ v w, vs = [v, w] ∧ D.nx ((σ.set i (some v)).set j (some w)) H1
/-- name op= e -/
def tAug (i : Nat) (te : TE) (ti : TIp) : TS := fun D σ H => ∃ x, σ[i]? = some (some x) ∧ te σ H fun y H1 => ti x y H1 fun z H2 => D.nx (σ.set i (some z)) H2
/-- o[i] op= e -/
def tAugS (to ti te : TE) (tget : V → V → Hp → VK → Prop) (tip : TIp) (tset : TSet) : TS := fun D σ H => to σ H fun o H1 => ti σ H1 fun i H2 => tget o i H2 fun x H3 => te σ H3 fun y H4 => tip x y H4 fun z H5 => tset o i z H5 fun H6 => D.nx σ H6
/-- o[i], by values -/
def PGet (X : Cx) (t : V → V → Hp → VK → Prop) : Prop :=
  ∀ (pins : List (Addr × Obj)) (s : Shared) (σ : St) (H : Hp) (o i : V) (ov iv : Value) (Q : VK), Inv X pins σ H s → RelV o ov → RelV i iv → t o i H Q →
    wpAny (model X.prog X.w) X.A (getItem ov iv) (EP X pins σ Q) X.xe s
/-- ints -/
def ipI (f : Int → Int → Int) : TIp := fun x y H Q => ∃ i j, x = .int i ∧ y = .int j ∧ Q (.int (f i j)) H
end

/-! ### while -/
section
variable {X : Cx} {pos : Pos}
/-- the invariant W with its measure -/
def tWhile (c : TT) (tb : TS) : TS := fun D σ H => ∃ W : Nat → St → Hp → Prop, (∃ m, W m σ H) ∧ ∀ m σ H, W m σ H →
  c σ H fun b H1 => if b = true then ∃ N : St → Hp → Prop, (∀ σ' H', N σ' H' → ∃ m', m' < m ∧ W m' σ' H') ∧ tb { D with nx := N, ct := N, bk := D.nx } σ H1 else D.nx σ H1
end

/-! ### what a loop or a comprehension walks -/
/-- at turn i: it yields x (the heap may grow), or it stops -/
structure It where
  go : Nat → Hp → Prop
  yld : Nat → Hp → V → Hp → Prop
  stop : Nat → Hp → Prop
/-- the iterator's own objects may turn: they are not the frame's, not pinned, younger than the entry (or a comprehension's own) -/
def FpOk (X : Cx) (pins : List (Addr × Obj)) (H : Hp) (b : Addr) : Prop :=
  H b = none ∧ b ≠ X.env.locals ∧ b ∉ X.fs ∧ (b ∈ X.ex ∨ X.s₀.heap.objs.size ≤ b) ∧ (∀ x c, X.env.cells.lookup x = some c → c ≠ b) ∧ ∀ p ∈ X.pn ++ pins, p.1 ≠ b
theorem Inv.fpOk {X : Cx} {pins : List (Addr × Obj)} {σ : St} {H H' : Hp} {s : Shared} {b : Addr} (I : Inv X pins σ H s) (hb : s.heap.objs.size ≤ b) (hn : H' b = none) : FpOk X pins H' b := by
  refine ⟨hn, Nat.ne_of_gt (Nat.lt_of_lt_of_le I.lt hb), I.nofs hb, .inr (Nat.le_trans I.sz hb), fun x c e z => ?_, fun p hp z => ?_⟩
  · obtain ⟨v, q⟩ := I.cell x c e
    exact absurd (Nat.lt_of_lt_of_le q.lt (by rw [z]; exact hb)) (Nat.lt_irrefl _)
  · exact absurd (Nat.lt_of_lt_of_le (Heap.lt_size (I.pin p hp).1) (by rw [z]; exact hb)) (Nat.lt_irrefl _)
structure Turn (P : Program) (w : World) (K : PySem.W.Frag) (tg : Expr) (J : It) (fp : List Addr) (it : Addr) (tn : Nat → Heap → Prop) : Prop where
  mem : it ∈ fp
  obj : ∀ i h, tn i h → ∀ b ∈ fp, ∃ o, h.get? b = some o ∧ ∀ v, o.data ≠ .cell v
  keep : ∀ i h h', tn i h → (∀ b ∈ fp, ∀ o, h.get? b = some o → h'.get? b = some o) → tn i h'
  item : ∀ (X : Cx), X.prog = P → X.w = w → X.K = K → X.calm = true → ∀ (i : Nat) (pins : List (Addr × Obj)) (s : Shared) (σ : St) (H : Hp) (E : Value → Shared → Prop), Inv X pins σ H s → (∀ b ∈ fp, FpOk X pins H b) → tn i s.heap → J.go i H →
    wpAny (model P w) X.A (pyNext (.ref it)) (fun r s1 => ∃ u, r = some u ∧
      wpAny (model P w) X.A (letOwnedTupleGo tg (.ref it) u) (fun _ s2 => ∃ x H', Inv X pins σ H' s2 ∧ RelV x u ∧ J.yld i H x H' ∧ tn (i + 1) s2.heap ∧ ∀ b ∈ fp, H' b = none) E s1) E s
  done : ∀ (X : Cx), X.prog = P → X.w = w → X.K = K → X.calm = true → ∀ (i : Nat) (pins : List (Addr × Obj)) (s : Shared) (σ : St) (H : Hp) (E : Value → Shared → Prop), Inv X pins σ H s → (∀ b ∈ fp, FpOk X pins H b) → tn i s.heap → J.stop i H →
    wpAny (model P w) X.A (pyNext (.ref it)) (fun r s1 => r = none ∧ Inv X pins σ H s1) E s
  self : ∀ (A : Around) (i : Nat) (s : Shared) (Q : Value → Shared → Prop) (E : Value → Shared → Prop), tn i s.heap → Q (.ref it) s → wpAny (model P w) A (pyIter (.ref it)) Q E s
abbrev TI := St → Hp → (It → Hp → Prop) → Prop
/-- an iterator has come -/
def PIE (X : Cx) (pins : List (Addr × Obj)) (σ : St) (tg : Expr) (R : It → Hp → Prop) (itv : Value) (s2 : Shared) : Prop :=
  ∃ (it : Addr) (fp : List Addr) (tn : Nat → Heap → Prop) (J : It) (H' : Hp), itv = .ref it ∧ Inv X pins σ H' s2 ∧ Turn X.prog X.w X.K tg J fp it tn ∧ tn 0 s2.heap ∧ (∀ b ∈ fp, FpOk X pins H' b) ∧ R J H'
def PI (X : Cx) (tg iter : Expr) (wi : TI) : Prop :=
  ∀ (pins : List (Addr × Obj)) (s : Shared) (σ : St) (H : Hp) (R : It → Hp → Prop), Inv X pins σ H s → wi σ H R →
    wpAny (model X.prog X.w) X.A (eval iter X.env) (fun v s1 => wpAny (model X.prog X.w) X.A (pyIter v) (PIE X pins σ tg R) X.xe s1) X.xe s

/-- the step ahead of the store is nothing for an iterator that keeps no tuple -/
theorem go_of {M : Model} {A : Around} {E : Value → Shared → Prop} {s : Shared} {tg : Expr} {it : Addr} {u : Value} {o : Obj} {n : String} {vs : Array Value} {Q : Unit → Shared → Prop} (ho : s.heap.get? it = some o) (hc : o.cls = .type n) (hd : o.data = .fields vs)
    (hn : ["enumerate", "zip", "dict_itemiterator", "dict_reverseitemiterator", "odict_iterator", "itertools.zip_longest", "itertools.pairwise"].contains n = false) (hQ : Q () s) : wpAny M A (letOwnedTupleGo tg (.ref it) u) Q E s := by
  unfold letOwnedTupleGo
  cases tg <;> first
    | exact wpAny_pure hQ
    | (cases u <;> first
        | exact wpAny_pure hQ
        | (refine wpAny_bind (wpAny_load ho ?_)
           rw [hc, hd]
           show wpAny M A (if (["enumerate", "zip", "dict_itemiterator", "dict_reverseitemiterator", "odict_iterator", "itertools.zip_longest", "itertools.pairwise"].contains n && vs[0]? == some (rawInt _)) = true then _ else _) Q E s
           rw [if_neg (by intro h; rw [hn, Bool.false_and] at h; cases h)]
           exact wpAny_pure hQ))

/-- the list at a, as it stands at each turn (a loop may append to it) -/
def Itl (K : PySem.W.Frag) (a : Addr) : It :=
  ⟨fun i H => ∃ xs x, SqL K H a xs ∧ xs[i]? = some x, fun i H x H' => H' = H ∧ ∀ xs, SqL K H a xs → xs[i]? = some x, fun i H => ∃ xs, SqL K H a xs ∧ xs.length ≤ i⟩
def Itt (K : PySem.W.Frag) (a : Addr) : It :=
  ⟨fun i H => ∃ xs x, SqT K H a xs ∧ xs[i]? = some x, fun i H x H' => H' = H ∧ ∀ xs, SqT K H a xs → xs[i]? = some x, fun i H => ∃ xs, SqT K H a xs ∧ xs.length ≤ i⟩
/-- lo, lo + 1, .. (n of them) -/
def Itr (lo : Int) (n : Nat) : It := ⟨fun i _ => i < n, fun i H x H' => H' = H ∧ x = .int (lo + i), fun i _ => n ≤ i⟩
theorem turn_list {P : Program} {w : World} {K : PySem.W.Frag} {tg : Expr} (a it : Addr) : Turn P w K tg (Itl K a) [it] it (fun i h => h.IsListIter it a i) where
  mem := by simp
  obj := fun i h st b hb => by
    have e : b = it := by simpa using hb
    subst e
    obtain ⟨o, e, c, d⟩ := st
    exact ⟨o, e, fun v z => by rw [d] at z; cases z⟩
  keep := fun i h h' st k => st.at fun o e => k it (by simp) o e
  item := by
    intro X hP hw hK hc i pins s σ H E I hf st hg
    subst hP hw hK
    obtain ⟨xs, x, hq, hx⟩ := hg
    obtain ⟨its, rv, p, hz⟩ := I.list hq
    obtain ⟨u, hu, ru⟩ := rv.get hx
    obtain ⟨f0, f1, f2, f3, f4, f5⟩ := hf it (by simp)
    refine wpAny_pyNext_list_item st p.isList (x := u) (by simpa using hu) fun h' st' sb => ?_
    have I1 : Inv X pins σ H { s with heap := h' } := I.turned (t' := s.toks) (fun b o hb e => (sb.2 b hb).trans e) f0 f1 f3 f4 f5
    obtain ⟨o, e, c, d⟩ := id st'
    exact ⟨u, rfl, go_of (s := { s with heap := h' }) e c d (by decide) ⟨x, H, I1, ru, ⟨rfl, fun ys hy => by rw [I.list_inj hy hq]; exact hx⟩, st', fun b hb => (hf b hb).1⟩⟩
  done := by
    intro X hP hw hK hc i pins s σ H E I hf st hg
    subst hP hw hK
    obtain ⟨xs, hq, hx⟩ := hg
    obtain ⟨its, rv, p, hz⟩ := I.list hq
    obtain ⟨f0, f1, f2, f3, f4, f5⟩ := hf it (by simp)
    have hl := rv.length
    exact wpAny_pyNext_list_end (I.ok.hd hc) st p.isList (by simp; omega) fun h' eb => ⟨rfl, I.turned (t' := s.toks) (fun b o hb e => eb b o hb e) f0 f1 f3 f4 f5⟩
  self := fun _ _ _ _ _ st h => wpAny_pyIter_listiter st h
theorem turn_range {P : Program} {w : World} {K : PySem.W.Frag} {tg : Expr} (it : Addr) (lo : Int) (n : Nat) : Turn P w K tg (Itr lo n) [it] it (fun i h => IsRangeIter h it (lo + (i : Nat) * 1) ((n : Int) - (i : Nat)) 1) where
  mem := by simp
  obj := fun i h st b hb => by
    have e : b = it := by simpa using hb
    subst e
    exact ⟨_, st, fun v z => by
      have z' : Data.fields _ = Data.cell v := z
      cases z'⟩
  keep := fun i h h' st k => k it (by simp) _ st
  item := by
    intro X hP hw hK hc i pins s σ H E I hf st hg
    subst hP hw hK
    obtain ⟨f0, f1, f2, f3, f4, f5⟩ := hf it (by simp)
    have W := Walks.range (prog := X.prog) (w := X.w) (I.ok.hd hc) it lo 1 n
    refine W.item i s _ _ hg st fun v h' tk hv st' kk => ?_
    obtain ⟨t, rfl⟩ := hv
    have I1 : Inv X pins σ H { s with heap := h', toks := tk } := I.turned (fun b o hb e => kk b o (by simpa using hb) e) f0 f1 f3 f4 f5
    refine ⟨_, rfl, go_of (s := { s with heap := h', toks := tk }) (n := "range_iterator") st' rfl rfl (by decide) ⟨.int (lo + i), H, I1, ⟨t, ?_⟩, ⟨rfl, rfl⟩, st', fun b hb => (hf b hb).1⟩⟩
    rw [Int.mul_one]
  done := by
    intro X hP hw hK hc i pins s σ H E I hf st hg
    subst hP hw hK
    obtain ⟨f0, f1, f2, f3, f4, f5⟩ := hf it (by simp)
    exact wpAny_pyNext_range_end (I.ok.hd hc) st (by have : n ≤ i := hg; omega) fun h' eb => ⟨rfl, I.turned (t' := s.toks) (fun b o hb e => eb b o hb e) f0 f1 f3 f4 f5⟩
  self := fun _ _ _ _ _ st h => wpAny_pyIter_rangeiter st h
end L2

namespace L2
open PySem PySem.Spec PyProof.Rows
section
variable {X : Cx} {tg : Expr}
def iList (K : PySem.W.Frag) (tl : TE) : TI := fun σ H R => tl σ H fun x H1 => ∃ a, x = .ref a ∧ (∃ xs, SqL K H1 a xs) ∧ R (Itl K a) H1
def iTup (K : PySem.W.Frag) (tl : TE) : TI := fun σ H R => tl σ H fun x H1 => ∃ a, x = .ref a ∧ (∃ xs, SqT K H1 a xs) ∧ R (Itt K a) H1
theorem pi_list {l : Expr} {tl : TE} (hl : PE X l tl) : PI X tg l (iList X.K tl) := by
  intro pins s σ H R I h
  refine thn (hl pins s σ H _ I h) fun v s1 ⟨x, H1, I1, r1, q1⟩ => ?_
  obtain ⟨a, e, ⟨xs, hq⟩, q⟩ := q1
  subst e
  cases r1
  obtain ⟨its, rv, p, hz⟩ := I1.list hq
  refine wpAny_pyIter_list p.isList ?_
  refine ⟨s1.heap.objs.size, [s1.heap.objs.size], _, _, H1, rfl, I1.kept (t' := s1.toks) fun b o e => Heap.get?_push_of_some _ e, turn_list a _, ⟨_, Heap.get?_push_size _ rfl, rfl, rfl⟩, fun b hb => ?_, q⟩
  have e : b = s1.heap.objs.size := by simpa using hb
  subst e
  exact I1.fpOk (Nat.le_refl _) (I1.hok.fresh (Nat.le_refl _))
/-- a range object just made, walked -/
theorem range_it {pins : List (Addr × Obj)} {σ : St} {H : Hp} {s : Shared} {R : It → Hp → Prop} {E : Value → Shared → Prop} {lo hi : Int} {t u v : Tok} {tk : Nat} (I : Inv X pins σ H s) (h1 : -(2 ^ 62) ≤ lo) (h2 : lo < 2 ^ 62) (h3 : -(2 ^ 62) ≤ hi) (h4 : hi < 2 ^ 62)
    (q : R (Itr lo (hi - lo).toNat) H) : wpAny (model X.prog X.w) X.A (pyIter (.ref s.heap.objs.size)) (PIE X pins σ tg R) E { s with heap := s.heap.push { cls := .type "range", data := .fields #[.int lo t, .int hi u, .int 1 v] }, toks := tk } := by
  refine wpAny_pyIter_range (IsRange.new ..) (small_one h1 h2 h3 h4) ?_
  have I1 : Inv X pins σ H { s with heap := s.heap.push { cls := .type "range", data := .fields #[.int lo t, .int hi u, .int 1 v] }, toks := tk } := I.kept fun b o e => Heap.get?_push_of_some _ e
  refine ⟨(s.heap.push { cls := .type "range", data := .fields #[.int lo t, .int hi u, .int 1 v] }).objs.size, [(s.heap.push { cls := .type "range", data := .fields #[.int lo t, .int hi u, .int 1 v] }).objs.size], _, _, H, rfl,
    I1.kept (t' := tk) fun b o e => Heap.get?_push_of_some _ e, turn_range _ lo (hi - lo).toNat, ?_, fun b hb => ?_, q⟩
  · have e1 : lo + ((0 : Nat) : Int) * 1 = lo := by simp
    have e2 : (((hi - lo).toNat : Nat) : Int) - ((0 : Nat) : Int) = Builtin.Range.rangeSize lo hi 1 := by rw [rangeSize_one]; split <;> omega
    show IsRangeIter _ _ (lo + ((0 : Nat) : Int) * 1) ((((hi - lo).toNat : Nat) : Int) - ((0 : Nat) : Int)) 1
    rw [e1, e2]
    exact Heap.get?_push_size _ rfl
  · have e : b = (s.heap.push { cls := .type "range", data := .fields #[.int lo t, .int hi u, .int 1 v] }).objs.size := by simpa using hb
    subst e
    exact I1.fpOk (Nat.le_refl _) (I1.hok.fresh (Nat.le_refl _))
def iRng1 (ta : TA) : TI := fun σ H R => ta σ H fun vs H1 => ∃ j : Int, vs = [.int j] ∧ -(2 ^ 62) ≤ j ∧ j < 2 ^ 62 ∧ R (Itr 0 j.toNat) H1
def iRng2 (ta : TA) : TI := fun σ H R => ta σ H fun vs H1 => ∃ i j : Int, vs = [.int i, .int j] ∧ (-(2 ^ 62) ≤ i ∧ i < 2 ^ 62 ∧ -(2 ^ 62) ≤ j ∧ j < 2 ^ 62) ∧ R (Itr i (j - i).toNat) H1
theorem pi_range1 {a : Expr} {ta : TA} {p pos : Pos} (hg : Gl X "range") (hm : X.mg "range" = none) (ha : PA X [a] ta) (hs : starEach [a] X.env = [(false, eval a X.env)] := by rfl) : PI X tg (.Call (.Name "range" p) [a] [] pos) (iRng1 ta) := by
  intro pins s σ H R I h
  refine Call_ (ld_blt I hg hm boot_range (PyProof.Rows.callWith_type1 (thn (ha pos pins s σ H _ I h) fun us s1 ⟨vs, H1, I1, r1, q1⟩ => ?_) hs rfl))
  obtain ⟨j, e, q1, q2, q⟩ := q1
  subst e
  cases r1 with
  | cons r rr =>
    cases rr
    obtain ⟨t, rfl⟩ := r
    exact call_range_1 (range_it I1 (by omega) (by omega) q1 q2 (by simpa using q))
/-! ### for -/
/-- W: the invariant by the turn and a measure; N: what the body is to reach -/
def tFor (wi : TI) (g : TG) (tb : TS) : TS := fun D σ H => wi σ H fun J H1 => ∃ W : Nat → Nat → St → Hp → Prop, (∃ m, W 0 m σ H1) ∧ ∀ i m σ H, W i m σ H →
  (J.stop i H ∧ D.nx σ H) ∨ (J.go i H ∧ ∃ N : St → Hp → Prop, (∀ σ' H', N σ' H' → ∃ m', m' < m ∧ W (i + 1) m' σ' H') ∧ ∀ x H', J.yld i H x H' → g x σ H' fun σ2 H2 => tb { D with nx := N, ct := N, bk := D.nx } σ2 H2)
/-- the records at fp as they stand -/
def pinsAt (fp : List Addr) (h : Heap) : List (Addr × Obj) := fp.filterMap fun b => (h.get? b).map fun o => (b, o)
theorem mem_pinsAt {fp : List Addr} {h : Heap} {b : Addr} {o : Obj} (hb : b ∈ fp) (e : h.get? b = some o) : (b, o) ∈ pinsAt fp h := List.mem_filterMap.mpr ⟨b, hb, by rw [e]; rfl⟩
theorem of_pinsAt {fp : List Addr} {h : Heap} {p : Addr × Obj} (hp : p ∈ pinsAt fp h) : p.1 ∈ fp ∧ h.get? p.1 = some p.2 := by
  obtain ⟨b, hb, e⟩ := List.mem_filterMap.mp hp
  cases q : h.get? b with
  | none => rw [q] at e; cases e
  | some o =>
    rw [q] at e
    have e' : (b, o) = p := Option.some.inj e
    subst e'
    exact ⟨hb, q⟩
theorem Inv.pinned {pins : List (Addr × Obj)} {σ : St} {H : Hp} {s : Shared} {fp : List Addr} (I : Inv X pins σ H s) (hf : ∀ b ∈ fp, FpOk X pins H b) (ho : ∀ b ∈ fp, ∃ o, s.heap.get? b = some o ∧ ∀ v, o.data ≠ .cell v) : Inv X (pins ++ pinsAt fp s.heap) σ H s :=
  I.pins_of fun p hp => (List.mem_append.mp hp).elim (fun z => I.pin p (List.mem_append_right _ z)) fun z => by
    obtain ⟨hb, e⟩ := of_pinsAt z
    obtain ⟨f0, f1, f2, _⟩ := hf p.1 hb
    obtain ⟨o, e', d⟩ := ho p.1 hb
    rw [e] at e'; cases e'
    exact ⟨e, f0, f1, f2, d⟩
theorem Inv.unpinned {pins pl : List (Addr × Obj)} {σ : St} {H : Hp} {s : Shared} (I : Inv X (pins ++ pl) σ H s) : Inv X pins σ H s := I.pins_of fun p hp => I.pin p (List.mem_append_right _ (List.mem_append_left _ hp))
theorem ps_for {iter : Expr} {body : List Stmt} {wi : TI} {g : TG} {tb : TS} {pos : Pos} (hp : PassesOwn (model X.prog X.w) X.A X.env X.xe) (hc : X.calm = true) (hi : PI X tg iter wi) (hg : PG X tg g) (hb : PSs X body tb)
    (hs : ∀ x, foldedSetIterable iter X.env x = pure x := by intro _; rfl) : PS X (.For tg iter body [] pos) (tFor wi g tb) := by
  intro pins s σ H D I h
  refine wpAny_For (thn (hi pins s σ H _ I h) fun v s1 h1 => thn h1 fun itv s2 h2 => ?_) hs
  obtain ⟨it, fp, tn, J, H2, e, I2, T, st2, f2, W, ⟨m0, w0⟩, turn⟩ := h2
  subst e
  -- what stays true of the iterator's objects through the loop
  have stat : ∀ {H' : Hp}, (∀ b ∈ fp, H' b = none) → ∀ b ∈ fp, FpOk X pins H' b := fun hn b hb => ⟨hn b hb, (f2 b hb).2⟩
  refine codeAny_forLoop_any (fun n s' => ∃ i σ' H', Inv X pins σ' H' s' ∧ tn i s'.heap ∧ (∀ b ∈ fp, H' b = none) ∧ W i n σ' H') ?_ m0 ⟨0, σ, H2, I2, st2, fun b hb => (f2 b hb).1, w0⟩
  rintro n s3 ⟨i, σ3, H3, I3, st3, fr3, w3⟩
  rcases turn i n σ3 H3 w3 with ⟨stop, qn⟩ | ⟨go, N, hN, step⟩
  · refine wpAny_passesOwn hp (thn (T.done X rfl rfl rfl hc i pins s3 σ3 H3 X.xe I3 (stat fr3) st3 stop) fun r s4 ⟨hr, I4⟩ => ?_)
    subst hr
    exact wpAny_execs_nil ⟨σ3, H3, I4, qn⟩
  · refine wpAny_passesOwn hp (thn (T.item X rfl rfl rfl hc i pins s3 σ3 H3 X.xe I3 (stat fr3) st3 go) fun r s4 ⟨u, hr, h4⟩ => ?_)
    subst hr
    refine wpAny_passesOwn hp (thn h4 fun _ s5 ⟨x, H5, I5, r5, y5, st5, fr5⟩ => ?_)
    have I5' := I5.pinned (stat fr5) (T.obj _ _ st5)
    refine wpAny_passesOwn hp (thn (hg _ s5 σ3 H5 x u _ I5' r5 (step x H5 y5)) fun _ s6 ⟨σ6, H6, I6, q6⟩ => ?_)
    refine wpAny_passesOwn hp (thn (hb _ s6 σ6 H6 _ I6 q6) fun f s7 q7 => ?_)
    have again : ∀ {σ7 : St} {H7 : Hp}, Inv X (pins ++ pinsAt fp s5.heap) σ7 H7 s7 → N σ7 H7 → ∃ m, m < n ∧ ∃ i σ' H', Inv X pins σ' H' s7 ∧ tn i s7.heap ∧ (∀ b ∈ fp, H' b = none) ∧ W i m σ' H' := fun {σ7 H7} I7 n7 => by
      obtain ⟨m', hm, w7⟩ := hN σ7 H7 n7
      refine ⟨m', hm, i + 1, σ7, H7, I7.unpinned, T.keep _ _ _ st5 fun b hb o e => (I7.pin (b, o) (List.mem_append_right _ (List.mem_append_right _ (mem_pinsAt hb e)))).1, fun b hb => ?_, w7⟩
      obtain ⟨o, e, d⟩ := T.obj _ _ st5 b hb
      exact (I7.pin (b, o) (List.mem_append_right _ (List.mem_append_right _ (mem_pinsAt hb e)))).2.1
    cases f with
    | next => obtain ⟨σ7, H7, I7, n7⟩ := q7; exact again I7 n7
    | cont => obtain ⟨σ7, H7, I7, n7⟩ := q7; exact again I7 n7
    | brk => obtain ⟨σ7, H7, I7, q7⟩ := q7; exact ⟨σ7, H7, I7.unpinned, q7⟩
    | ret v => obtain ⟨x7, σ7, H7, I7, r7, q7⟩ := q7; exact ⟨x7, σ7, H7, I7.unpinned, r7, q7⟩
end

/-! ### the forms one uses -/
/-- over a list that the body leaves as it is -/
theorem for_list {K : PySem.W.Frag} {a : Addr} {xs : List V} {g : TG} {tb : TS} {D : Ends} {σ : St} {H : Hp} (Pv : Nat → St → Hp → Prop) (h0 : Pv 0 σ H) (hl : ∀ i σ H, i ≤ xs.length → Pv i σ H → SqL K H a xs)
    (hs : ∀ i x σ H, xs[i]? = some x → Pv i σ H → g x σ H fun σ2 H2 => tb { D with nx := Pv (i + 1), ct := Pv (i + 1), bk := D.nx } σ2 H2) (hd : ∀ σ H, Pv xs.length σ H → D.nx σ H) :
    ∃ W : Nat → Nat → St → Hp → Prop, (∃ m, W 0 m σ H) ∧ ∀ i m σ H, W i m σ H →
      ((Itl K a).stop i H ∧ D.nx σ H) ∨ ((Itl K a).go i H ∧ ∃ N : St → Hp → Prop, (∀ σ' H', N σ' H' → ∃ m', m' < m ∧ W (i + 1) m' σ' H') ∧ ∀ x H', (Itl K a).yld i H x H' → g x σ H' fun σ2 H2 => tb { D with nx := N, ct := N, bk := D.nx } σ2 H2) := by
  refine ⟨fun i m σ H => m = xs.length - i ∧ i ≤ xs.length ∧ Pv i σ H, ⟨xs.length, by simp, Nat.zero_le _, h0⟩, ?_⟩
  rintro i m σ H ⟨rfl, hi, p⟩
  have q := hl i σ H hi p
  by_cases hlt : i < xs.length
  · refine .inr ⟨⟨xs, xs[i], q, by simp [hlt]⟩, Pv (i + 1), fun σ' H' p' => ⟨xs.length - (i + 1), by omega, rfl, hlt, p'⟩, fun x H' y => ?_⟩
    obtain ⟨e, y⟩ := y
    subst e
    exact hs i x σ _ (y xs q) p
  · have e : i = xs.length := by omega
    subst e
    exact .inl ⟨⟨xs, q, Nat.le_refl _⟩, hd σ H p⟩
theorem for_range {lo : Int} {n : Nat} {g : TG} {tb : TS} {D : Ends} {σ : St} {H : Hp} (Pv : Nat → St → Hp → Prop) (h0 : Pv 0 σ H)
    (hs : ∀ i σ H, i < n → Pv i σ H → g (.int (lo + i)) σ H fun σ2 H2 => tb { D with nx := Pv (i + 1), ct := Pv (i + 1), bk := D.nx } σ2 H2) (hd : ∀ σ H, Pv n σ H → D.nx σ H) :
    ∃ W : Nat → Nat → St → Hp → Prop, (∃ m, W 0 m σ H) ∧ ∀ i m σ H, W i m σ H →
      ((Itr lo n).stop i H ∧ D.nx σ H) ∨ ((Itr lo n).go i H ∧ ∃ N : St → Hp → Prop, (∀ σ' H', N σ' H' → ∃ m', m' < m ∧ W (i + 1) m' σ' H') ∧ ∀ x H', (Itr lo n).yld i H x H' → g x σ H' fun σ2 H2 => tb { D with nx := N, ct := N, bk := D.nx } σ2 H2) := by
  refine ⟨fun i m σ H => m = n - i ∧ i ≤ n ∧ Pv i σ H, ⟨n, by simp, Nat.zero_le _, h0⟩, ?_⟩
  rintro i m σ H ⟨rfl, hi, p⟩
  by_cases hlt : i < n
  · refine .inr ⟨hlt, Pv (i + 1), fun σ' H' p' => ⟨n - (i + 1), by omega, rfl, hlt, p'⟩, fun x H' y => ?_⟩
    obtain ⟨e, y⟩ := y
    subst e y
    exact hs i σ _ hlt p
  · have e : i = n := by omega
    subst e
    exact .inl ⟨Nat.le_refl _, hd σ H p⟩
end L2

namespace L2
open PySem PySem.Spec PyProof.Rows

abbrev R2 := V → V → Hp → VK → Prop
/-- a two-place operation on values: f is binaryOp op, inplaceOp op or compareOp op -/
def OpR (X : Cx) (f : Value → Value → Sem Value) (r : R2) : Prop :=
  ∀ (pins : List (Addr × Obj)) (s : Shared) (σ : St) (H : Hp) (x y : V) (v u : Value) (Q : VK), Inv X pins σ H s → RelV x v → RelV y u → r x y H Q →
    wpAny (model X.prog X.w) X.A (f v u) (EP X pins σ Q) X.xe s
/-- a one-place operation -/
def UnR (X : Cx) (f : Value → Sem Value) (r : V → Hp → VK → Prop) : Prop :=
  ∀ (pins : List (Addr × Obj)) (s : Shared) (σ : St) (H : Hp) (x : V) (v : Value) (Q : VK), Inv X pins σ H s → RelV x v → r x H Q →
    wpAny (model X.prog X.w) X.A (f v) (EP X pins σ Q) X.xe s
/-- a call of a value that is known (a builtin, a type) with values -/
def CallR (X : Cx) (f : Value) (r : List V → Hp → VK → Prop) : Prop :=
  ∀ (pins : List (Addr × Obj)) (s : Shared) (σ : St) (H : Hp) (xs : List V) (us : List Value) (Q : VK), Inv X pins σ H s → Vals xs us → r xs H Q →
    wpAny (model X.prog X.w) X.A (call f us) (EP X pins σ Q) X.xe s
/-- a value's truth -/
def TruR (X : Cx) (r : V → Hp → (Bool → Hp → Prop) → Prop) : Prop :=
  ∀ (pins : List (Addr × Obj)) (s : Shared) (σ : St) (H : Hp) (x : V) (v : Value) (Q : Bool → Hp → Prop), Inv X pins σ H s → RelV x v → r x H Q →
    wpAny (model X.prog X.w) X.A (truthy v) (TP X pins σ Q) X.xe s

def tOp (r : R2) (ta tb : TE) : TE := fun σ H Q => ta σ H fun x H1 => tb σ H1 fun y H2 => r x y H2 Q
def tUn (r : V → Hp → VK → Prop) (ta : TE) : TE := fun σ H Q => ta σ H fun x H1 => r x H1 Q
/-- ints in, under C, and a value out -/
def rI (C : Int → Int → Prop) (g : Int → Int → V) : R2 := fun x y H Q => ∃ i j, x = .int i ∧ y = .int j ∧ C i j ∧ Q (g i j) H
def rI0 (g : Int → Int → V) : R2 := fun x y H Q => ∃ i j, x = .int i ∧ y = .int j ∧ Q (g i j) H
def rU (g : Int → V) : V → Hp → VK → Prop := fun x H Q => ∃ i, x = .int i ∧ Q (g i) H

section
variable {X : Cx} {a b c : Expr} {ta tb tc : TE} {pos : Pos}

theorem binT (ha : PE X a ta) (hb : PE X b tb) {pins : List (Addr × Obj)} {s : Shared} {σ : St} {H : Hp} {R : V → V → Hp → Prop} (I : Inv X pins σ H s)
    (h : ta σ H fun x H1 => tb σ H1 fun y H2 => R x y H2) {Q : Value → Shared → Prop} {f : Value → Value → Sem Value}
    (hf : ∀ v u s2 x y H2, Inv X pins σ H2 s2 → RelV x v → RelV y u → R x y H2 → wpAny (model X.prog X.w) X.A (f v u) Q X.xe s2) :
    wpAny (model X.prog X.w) X.A (eval a X.env) (fun v s₁ => wpAny (model X.prog X.w) X.A (eval b X.env) (fun u s₂ => wpAny (model X.prog X.w) X.A (f v u) Q X.xe s₂) X.xe s₁) X.xe s := by
  refine thn (ha pins s σ H _ I h) fun v s1 ⟨x, H1, I1, r1, q1⟩ => ?_
  refine thn (hb pins s1 σ H1 _ I1 q1) fun u s2 ⟨y, H2, I2, r2, q2⟩ => ?_
  exact hf v u s2 x y H2 I2 r1 r2 q2

theorem pe_op {op : Operator} {r : R2} (ho : OpR X (binaryOp op) r) (ha : PE X a ta) (hb : PE X b tb) : PE X (.BinOp a op b pos) (tOp r ta tb) := by
  intro pins s σ H Q I h
  exact wpAny_BinOp (binT ha hb I h fun v u s2 x y H2 I2 rx ry q => ho pins s2 σ H2 x y v u Q I2 rx ry q)
theorem pe_un {op : UnaryOp} {r : V → Hp → VK → Prop} (ho : UnR X (unaryOp op) r) (ha : PE X a ta) : PE X (.UnaryOp op a pos) (tUn r ta) := by
  intro pins s σ H Q I h
  exact UnaryOp_ (thn (ha pins s σ H _ I h) fun v s1 ⟨x, H1, I1, r1, q1⟩ => ho pins s1 σ H1 x v Q I1 r1 q1)
/-! ### ints -/
theorem opI {f : Value → Value → Sem Value} {C : Int → Int → Prop} {g : Int → Int → Int}
    (rule : ∀ (i j : Int) (t u : Tok) (s : Shared) (Q : Value → Shared → Prop) (E : Value → Shared → Prop), C i j → Q (.int (g i j) s.toks) { s with toks := s.toks + 1 } → wpAny (model X.prog X.w) X.A (f (.int i t) (.int j u)) Q E s) :
    OpR X f (rI C fun i j => .int (g i j)) := by
  intro pins s σ H x y v u Q I rx ry h
  obtain ⟨i, j, rfl, rfl, hc, q⟩ := h
  obtain ⟨t, rfl⟩ := rx
  obtain ⟨t', rfl⟩ := ry
  exact rule i j t t' s _ _ hc ⟨.int (g i j), H, I.tok _, ⟨_, rfl⟩, q⟩
theorem opI0 {f : Value → Value → Sem Value} {g : Int → Int → Int}
    (rule : ∀ (i j : Int) (t u : Tok) (s : Shared) (Q : Value → Shared → Prop) (E : Value → Shared → Prop), Q (.int (g i j) s.toks) { s with toks := s.toks + 1 } → wpAny (model X.prog X.w) X.A (f (.int i t) (.int j u)) Q E s) :
    OpR X f (rI0 fun i j => .int (g i j)) := by
  intro pins s σ H x y v u Q I rx ry h
  obtain ⟨i, j, rfl, rfl, q⟩ := h
  obtain ⟨t, rfl⟩ := rx
  obtain ⟨t', rfl⟩ := ry
  exact rule i j t t' s _ _ ⟨.int (g i j), H, I.tok _, ⟨_, rfl⟩, q⟩
theorem opB0 {f : Value → Value → Sem Value} {g : Int → Int → Bool}
    (rule : ∀ (i j : Int) (t u : Tok) (s : Shared) (Q : Value → Shared → Prop) (E : Value → Shared → Prop), Q (.bool (g i j)) s → wpAny (model X.prog X.w) X.A (f (.int i t) (.int j u)) Q E s) :
    OpR X f (rI0 fun i j => .bl (g i j)) := by
  intro pins s σ H x y v u Q I rx ry h
  obtain ⟨i, j, rfl, rfl, q⟩ := h
  obtain ⟨t, rfl⟩ := rx
  obtain ⟨t', rfl⟩ := ry
  exact rule i j t t' s _ _ ⟨.bl (g i j), H, I, rfl, q⟩

def CDiv (i j : Int) : Prop := 0 < j ∧ j < 1073741824
def CDivN (i j : Int) : Prop := j ≠ 0 ∧ j.natAbs < 1073741824
def CPow (i j : Int) : Prop := 0 ≤ j ∧ j ≤ 1000000 ∧ i.natAbs < 2 ^ 64
def CMul (i j : Int) : Prop := (-(2 ^ 64) < i ∧ i < 2 ^ 64) ∨ (-(2 ^ 64) < j ∧ j < 2 ^ 64)
theorem CMul.ok {i j : Int} (h : CMul i j) : IntMulOk i j := by
  rcases h with ⟨h1, h2⟩ | ⟨h1, h2⟩
  · exact .of_left (intBits_le_64 h1 h2)
  · exact .of_right (intBits_le_64 h1 h2)
theorem op_add : OpR X (binaryOp .Add) (rI0 fun i j => .int (i + j)) := opI0 fun _ _ _ _ _ _ _ q => add_int q
theorem op_sub : OpR X (binaryOp .Sub) (rI0 fun i j => .int (i - j)) := opI0 fun _ _ _ _ _ _ _ q => sub_int q
/-- % by a positive divisor of any size -/
theorem op_mod : OpR X (binaryOp .Mod) (rI (fun _ j => 0 < j) fun i j => .int (i % j)) := opI fun i j _ _ _ _ _ hc q => by
  have h1 : (0 : Int) < j := hc
  exact mod_int' (by omega) (by rw [Int.fmod_eq_emod_of_nonneg i (by omega)]; exact q)
theorem op_modN : OpR X (binaryOp .Mod) (rI (fun _ j => j ≠ 0) fun i j => .int (i.fmod j)) := opI fun _ _ _ _ _ _ _ hc q => mod_int' hc q
theorem op_pow : OpR X (binaryOp .Pow) (rI CPow fun i j => .int (i ^ j.toNat)) := opI fun _ _ _ _ _ _ _ hc q => pow_int_small hc.1 hc.2.1 hc.2.2 q
theorem unI {f : Value → Sem Value} {g : Int → Int}
    (rule : ∀ (i : Int) (t : Tok) (s : Shared) (Q : Value → Shared → Prop) (E : Value → Shared → Prop), Q (.int (g i) s.toks) { s with toks := s.toks + 1 } → wpAny (model X.prog X.w) X.A (f (.int i t)) Q E s) :
    UnR X f (rU fun i => .int (g i)) := by
  intro pins s σ H x v Q I rx h
  obtain ⟨i, rfl, q⟩ := h
  obtain ⟨t, rfl⟩ := rx
  exact rule i t s _ _ ⟨.int (g i), H, I.tok _, ⟨_, rfl⟩, q⟩
theorem un_neg : UnR X (unaryOp .USub) (rU fun i => .int (-i)) := unI fun _ _ _ _ _ q => neg_int q
/-! ### bools among ints: n += (a < b) -/
end

/-! ### comparisons -/
/-- the scalars that == tells apart as data does -/
def scal : V → V → Bool
  | .non, .non => true | .non, .int _ => true | .int _, .non => true | .non, .bl _ => true | .bl _, .non => true | .non, .str _ => true | .str _, .non => true
  | .int _, .int _ => true | .bl _, .bl _ => true | .str _, .str _ => true | .byt _, .byt _ => true
  | .int _, .str _ => true | .str _, .int _ => true | .bl _, .str _ => true | .str _, .bl _ => true
  | _, _ => false
def rEq : R2 := fun x y H Q => scal x y = true ∧ Q (.bl (decide (x = y))) H
def rNe : R2 := fun x y H Q => scal x y = true ∧ Q (.bl (!decide (x = y))) H

theorem dec_int {i j : Int} : decide (V.int i = V.int j) = (i == j) := by
  rw [Bool.eq_iff_iff]
  simp
theorem dec_bl {i j : Bool} : decide (V.bl i = V.bl j) = (i == j) := by
  rw [Bool.eq_iff_iff]
  simp
theorem dec_str {i j : Str} : decide (V.str i = V.str j) = (i == j) := by
  rw [Bool.eq_iff_iff]
  simp
theorem dec_byt {i j : Array UInt8} : decide (V.byt i = V.byt j) = (i.toList == j.toList) := by
  rw [Bool.eq_iff_iff]
  cases i
  cases j
  simp

section
variable {X : Cx} {a b c : Expr} {ta tb tc : TE} {pos : Pos}
theorem fin_bl {pins : List (Addr × Obj)} {σ : St} {H : Hp} {s : Shared} {Q : VK} {k k' : Bool} (I : Inv X pins σ H s) (q : Q (.bl k) H) (e : k = k') : EP X pins σ Q (.bool k') s := by
  subst e
  exact ⟨.bl k, H, I, rfl, q⟩
theorem op_eq : OpR X (compareOp .Eq) rEq := by
  intro pins s σ H x y v u Q I rx ry h
  obtain ⟨hs, q⟩ := h
  cases x with
  | non =>
    cases rx
    cases y with
    | non => cases ry; exact PySem.EqNone.eq_none_none (fin_bl I q (by simp))
    | bl j => cases ry; exact PySem.EqNone.eq_none_bool (fin_bl I q (by simp))
    | int j => obtain ⟨t', rfl⟩ := ry; exact PySem.EqNone.eq_none_int (fin_bl I q (by simp))
    | str j => obtain ⟨t', rfl⟩ := ry; exact PySem.EqNone.eq_none_str (fin_bl I q (by simp))
    | _ => exact absurd (show false = true from hs) Bool.false_ne_true
  | bl i =>
    cases rx
    cases y with
    | non => cases ry; exact PySem.EqNone.eq_bool_none (fin_bl I q (by simp))
    | bl j => cases ry; exact eq_bool (fin_bl I q dec_bl)
    | str j => obtain ⟨t', rfl⟩ := ry; exact PySem.EqMixed.eq_bool_str (fin_bl I q (by simp))
    | _ => exact absurd (show false = true from hs) Bool.false_ne_true
  | int i =>
    obtain ⟨t, rfl⟩ := rx
    cases y with
    | non => cases ry; exact PySem.EqNone.eq_int_none (fin_bl I q (by simp))
    | int j => obtain ⟨t', rfl⟩ := ry; exact eq_int (fin_bl I q dec_int)
    | str j => obtain ⟨t', rfl⟩ := ry; exact PySem.EqMixed.eq_int_str (fin_bl I q (by simp))
    | _ => exact absurd (show false = true from hs) Bool.false_ne_true
  | str i =>
    obtain ⟨t, rfl⟩ := rx
    cases y with
    | non => cases ry; exact PySem.EqNone.eq_str_none (fin_bl I q (by simp))
    | bl j => cases ry; exact PySem.EqMixed.eq_str_bool (fin_bl I q (by simp))
    | int j => obtain ⟨t', rfl⟩ := ry; exact PySem.EqMixed.eq_str_int (fin_bl I q (by simp))
    | str j => obtain ⟨t', rfl⟩ := ry; exact eq_str (fin_bl I q dec_str)
    | _ => exact absurd (show false = true from hs) Bool.false_ne_true
  | byt i =>
    obtain ⟨t, rfl⟩ := rx
    cases y with
    | byt j => obtain ⟨t', rfl⟩ := ry; exact PySem.W.eq_bytes (fin_bl I q dec_byt)
    | _ => exact absurd (show false = true from hs) Bool.false_ne_true
  | _ => cases y <;> exact absurd (show false = true from hs) Bool.false_ne_true
theorem op_lt : OpR X (compareOp .Lt) (rI0 fun i j => .bl (decide (i < j))) := opB0 fun _ _ _ _ _ _ _ q => lt_int q
theorem op_ge : OpR X (compareOp .GtE) (rI0 fun i j => .bl (decide (j ≤ i))) := opB0 fun _ _ _ _ _ _ _ q => ge_int q
/-- is None, is not None: the right side a value none -/
theorem op_isN : OpR X (compareOp .Is) (fun x y H Q => y = .non ∧ Q (.bl (decide (x = .non))) H) := by
  intro pins s σ H x y v u Q I rx ry h
  obtain ⟨rfl, q⟩ := h
  cases ry
  refine is_none_gen (fin_bl I q ?_)
  cases x <;> first
    | (cases rx; rfl)
    | (obtain ⟨t, rfl⟩ := rx; rfl)
/-- is, is not of two objects that are tracked lists or instances -/
def isObj : HO → Bool
  | .lst _ => true
  | .ins _ _ _ => true
  | _ => false
theorem nomark (b : Expr) {op : CmpOp} (h : op ≠ .In := by decide) (h2 : op ≠ .NotIn := by decide) : behindInMarks op b = false := by
  have e1 : (op == CmpOp.In) = false := by cases op <;> first | rfl | exact absurd rfl h
  have e2 : (op == CmpOp.NotIn) = false := by cases op <;> first | rfl | exact absurd rfl h2
  cases b <;> simp [behindInMarks, e1, e2]
/-- a comparison as a value; hm: nomark b, or (for in, not in) by with_unfolding_all rfl -/
theorem pe_cmpR {op : CmpOp} {r : R2} (ho : OpR X (compareOp op) r) (ha : PE X a ta) (hb : PE X b tb) (hm : behindInMarks op b = false) : PE X (.Compare a [op] [b] pos) (tOp r ta tb) := by
  intro pins s σ H Q I h
  exact wpAny_Compare1 (binT ha hb I h fun v u s2 x y H2 I2 rx ry q => ho pins s2 σ H2 x y v u Q I2 rx ry q) hm
/-- a reading of a value as a test -/
def tTest (t : TE) : TT := fun σ H Q => t σ H fun x H' => ∃ k, x = .bl k ∧ Q k H'
theorem pt_cmpR {op : CmpOp} {r : R2} (ho : OpR X (compareOp op) r) (ha : PE X a ta) (hb : PE X b tb) (hm : behindInMarks op b = false) : PT X (.Compare a [op] [b] pos) (tTest (tOp r ta tb)) := by
  intro pins s σ H Q I h
  refine wpAny_isTrue_Compare1 (thn (ha pins s σ H _ I h) fun v s1 ⟨x, H1, I1, r1, q1⟩ => thn (hb pins s1 σ H1 _ I1 q1) fun u s2 ⟨y, H2, I2, r2, q2⟩ =>
    thn (ho pins s2 σ H2 x y v u _ I2 r1 r2 q2) fun c s3 ⟨z, H3, I3, r3, k, e, q3⟩ => ?_) hm
  subst e
  cases r3
  exact wpAny_truthy_bool ⟨H3, I3, q3⟩
/-- a op1 b op2 c -/
def tChain (r r' : R2) (ta tb tc : TE) : TE := fun σ H Q => ta σ H fun x H1 => tb σ H1 fun y H2 => r x y H2 fun z H3 => ∃ k, z = .bl k ∧
  (if k = true then tc σ H3 fun w' H4 => r' y w' H4 Q else Q (.bl false) H3)
/-! ### truth -/
/-- a value's truth by the abstract heap -/
def TruV (K : PySem.W.Frag) (x : V) (H : Hp) (k : Bool) : Prop :=
  match x with
  | .non => k = false
  | .bl b => k = b
  | .int i => k = (i != 0)
  | .str y => y.length ≤ sizeLine ∧ k = ((y.length : Int) != 0)
  | .byt y => y.size ≤ sizeLine ∧ k = ((y.size : Int) != 0)
  | .ref p => (∃ xs, SqL K H p xs ∧ k = !xs.isEmpty) ∨ (∃ xs, SqT K H p xs ∧ k = !xs.isEmpty) ∨ ∃ kvs, H p = some (.dK kvs) ∧ k = !kvs.isEmpty
  | _ => False
theorem line63 : (sizeLine : Nat) < 2 ^ 63 := by rw [sizeLine_eq]; decide
/-! ### strs and bytes -/
def PlainIxT (b : Expr) : Prop := ∀ o i, subscripted b false o i = operate [o, i] (getItem o i)
/-! ### scalar builtins, by CallR -/
theorem vals1 {x : V} {us : List Value} (r : Vals [x] us) : ∃ u, us = [u] ∧ RelV x u := by
  cases r with
  | cons r1 r2 => cases r2; exact ⟨_, rfl, r1⟩
theorem vals2 {x y : V} {us : List Value} (r : Vals [x, y] us) : ∃ u w', us = [u, w'] ∧ RelV x u ∧ RelV y w' := by
  cases r with
  | cons r1 r2 =>
    cases r2 with
    | cons r3 r4 => cases r4; exact ⟨_, _, rfl, r1, r3⟩
/-- len of a str, a bytes, a list, a tuple -/
def LenV (K : PySem.W.Frag) (x : V) (H : Hp) (n : Nat) : Prop :=
  match x with
  | .str y => y.length ≤ sizeLine ∧ n = y.length
  | .byt y => y.size ≤ sizeLine ∧ n = y.size
  | .ref p => (∃ xs, SqL K H p xs ∧ n = xs.length) ∨ ∃ xs, SqT K H p xs ∧ n = xs.length
  | _ => False
end
end L2

namespace L2
open PySem PySem.Spec PyProof.Rows

/-! ### an instance, its attributes a map -/
structure ObjM (h : Heap) (x dx C : Addr) (mA : Str → Option Value) : Prop where
  obj : h.get? x = some (PySem.W.instObj C dx)
  ns : h.Ns1 dx mA
  ne : dx ≠ x

theorem lookIn_ns {h : Heap} {dx : Addr} {mA : Str → Option Value} (n : h.Ns1 dx mA) : ∃ od, h.get? dx = some od ∧ ∀ name, PySem.W.lookIn name od = some (mA name) := by
  obtain ⟨o, es, ep, ho, hd, hk, _, hm⟩ := n
  refine ⟨o, ho, fun name => ?_⟩
  have e := hm name
  unfold nsFind findBy at e
  rw [← Array.find?_toList] at e
  unfold PySem.W.lookIn
  rw [hd]
  dsimp only
  split
  · rename_i y q
    rw [q] at e
    exact congrArg some e
  · rename_i q
    rw [q] at e
    have a : es.toList.any (·.refKey) = false := by
      rw [List.any_eq_false]
      intro y hy
      obtain ⟨z, t, hkey⟩ := hk y (Array.mem_toList_iff.mp hy)
      simp [DictEntry.refKey, hkey]
    have a' : ¬ es.toList.any (·.refKey) = true := by rw [a]; exact Bool.false_ne_true
    rw [if_neg a']
    exact congrArg some e

theorem ObjM.look {h : Heap} {x dx C : Addr} {mA : Str → Option Value} (I : ObjM h x dx C mA) : ∃ od, PySem.W.InstAt h x (PySem.W.instObj C dx) C (some od) ∧ ∀ name, PySem.W.lookIn name od = some (mA name) :=
  let ⟨od, ho, hl⟩ := lookIn_ns I.ns
  ⟨od, ⟨I.obj, rfl, rfl, ho⟩, hl⟩

section
variable {prog : Program} {w : World} {A : Around} {E : Value → Shared → Prop} {s : Shared} {K : PySem.W.Frag} {x dx C f : Addr} {mA : Str → Option Value} {name : Str} {v : Value}

end

/-! ### the attributes as a list of pairs -/
def putF (f : Str) (v : V) : List (Str × V) → List (Str × V)
  | [] => [(f, v)]
  | (g, x) :: r => if g = f then (g, v) :: r else (g, x) :: putF f v r
section
variable {P : Program} {w : World} {H H' : Hp} {h h' : Heap} {a C dx : Addr} {fs fs' : List (Str × V)}
theorem ins_get (hok : HOk P w H h) (e : H a = some (.ins C dx fs)) : ∃ mA, ObjM h a dx C mA ∧ (∀ f, RelO (fs.lookup f) (mA f)) ∧ PySem.Within mA (fs.map (·.1)) ∧ fs.length ≤ 1000 ∧ H dx = some (.own a) := by
  obtain ⟨d, z, ne, ob, mA, n, r, q⟩ := (show ObjOk P w H h a (.ins C dx fs) from hok a _ e)
  exact ⟨mA, ⟨ob, n, ne⟩, r, q, z, d⟩
end

/-! ### what of the text a class must have -/
structure Cls (K : PySem.W.Frag) (C : Addr) : Prop where
  pg : PySem.W.plainGet K C Str.empty = true
  hd : PySem.W.hasDictIn K C = true
  po : PySem.W.plainOver K C = true
  sa : PySem.W.findIn K (.ref C) "__setattr__" = some (some (.builtin "object.__setattr__"))
theorem Cls.get {K : PySem.W.Frag} {C : Addr} (c : Cls K C) (f : Str) : PySem.W.plainGet K C f = true := c.pg
/-- no class of it has the name -/
def NoAttr (K : PySem.W.Frag) (C : Addr) (f : Str) : Prop := PySem.W.findIn K (.ref C) f = some none
/-- a constant of the class -/
structure Con (K : PySem.W.Frag) (C : Addr) (f : Str) (v : V) (u : Value) : Prop where
  at_ : PySem.W.findIn K (.ref C) f = some (some u)
  rel : RelV v u
  get : PySem.W.specialIn K u "__get__" = some none
  cp : PySem.W.copiedNames.contains f = false
/-- a method: a plain def of the class or of one above it -/
structure Meth (K : PySem.W.Frag) (C : Addr) (m : Str) (f : Addr) : Prop where
  at_ : PySem.W.findIn K (.ref C) m = some (some (.ref f))
  fn : PySem.W.isFn K (.ref f) = true
  kp : PySem.W.keepIn K (.ref f) = true

section
variable {X : Cx} {pins : List (Addr × Obj)} {σ : St} {H : Hp} {s : Shared} {a C dx : Addr} {fs : List (Str × V)} {f : Str} {v : V} {A : Around} {E : Value → Shared → Prop}

end

/-! ### readings and rules -/
/-- e.f, an attribute of the instance -/
def tFld (K : PySem.W.Frag) (ta : TE) (f : Str) : TE := fun σ H Q => ta σ H fun x H1 => ∃ a C dx fs v, x = .ref a ∧ H1 a = some (.ins C dx fs) ∧ Cls K C ∧ NoAttr K C f ∧ fs.lookup f = some v ∧ Q v H1
/-- e.f, a constant of the class -/
def tCon (K : PySem.W.Frag) (ta : TE) (f : Str) : TE := fun σ H Q => ta σ H fun x H1 => ∃ a C dx fs v u, x = .ref a ∧ H1 a = some (.ins C dx fs) ∧ Cls K C ∧ Con K C f v u ∧ fs.lookup f = none ∧ Q v H1
/-- e.f = value -/
def sFld (K : PySem.W.Frag) (ta tv : TE) (f : Str) : TS := fun D σ H => tv σ H fun y H1 => ta σ H1 fun x H2 => ∃ a C dx fs, x = .ref a ∧ H2 a = some (.ins C dx fs) ∧ Cls K C ∧ NoAttr K C f ∧ fs.length < 1000 ∧
  D.nx σ (upd H2 a (.ins C dx (putF f y fs)))
/-- an augmented operator on two values -/
def InOp (X : Cx) (op : Operator) (rd : V → V → Hp → VK → Prop) : Prop :=
  ∀ (pins : List (Addr × Obj)) (s : Shared) (σ : St) (H : Hp) (x y : V) (u v : Value) (Q : VK), Inv X pins σ H s → RelV x u → RelV y v → rd x y H Q → wpAny (model X.prog X.w) X.A (inplaceOp op u v) (EP X pins σ Q) X.xe s
/-- e.f op= value -/
def sFldAug (K : PySem.W.Frag) (ta tv : TE) (rd : V → V → Hp → VK → Prop) (f : Str) : TS := fun D σ H => ta σ H fun x H1 => ∃ a C dx fs v, x = .ref a ∧ H1 a = some (.ins C dx fs) ∧ Cls K C ∧ NoAttr K C f ∧ fs.lookup f = some v ∧
  tv σ H1 fun y H2 => rd v y H2 fun z H3 => ∃ dx' fs', H3 a = some (.ins C dx' fs') ∧ fs'.length < 1000 ∧ D.nx σ (upd H3 a (.ins C dx' (putF f z fs')))

section
variable {X : Cx} {o e value : Expr} {f : Str} {pos pos' tpos : Pos} {ta tv : TE}
def rAdd : V → V → Hp → VK → Prop := fun x y H Q => ∃ i j, x = .int i ∧ y = .int j ∧ Q (.int (i + j)) H
def rSub : V → V → Hp → VK → Prop := fun x y H Q => ∃ i j, x = .int i ∧ y = .int j ∧ Q (.int (i - j)) H
end

/-! ### isinstance -/
section
variable {X : Cx} {pins : List (Addr × Obj)} {σ : St} {H : Hp} {s : Shared} {A : Around} {E : Value → Shared → Prop} {Q : Value → Shared → Prop} {c : Value} {b : Bool}
/-- the type of a value, as the fragment's deciders take it; for an instance its class -/
inductive TyOf (K : PySem.W.Frag) (H : Hp) : V → Value → Prop where
  | non : TyOf K H .non (.type "NoneType")
  | bl (x : Bool) : TyOf K H (.bl x) (.type "bool")
  | int (i : Int) : TyOf K H (.int i) (.type "int")
  | str (x : Str) : TyOf K H (.str x) (.type "str")
  | flt (x : UInt64) : TyOf K H (.flt x) (.type "float")
  | lst {a : Addr} {xs : List V} (e : H a = some (.lst xs)) : TyOf K H (.ref a) (.type "list")
  | frz {a : Addr} {o : Obj} {xs : List V} (e : H a = some (.frz o (.lst xs))) : TyOf K H (.ref a) (.type "list")
  | tup {a : Addr} {xs : List V} (e : H a = some (.tup xs)) : TyOf K H (.ref a) (.type "tuple")
  | dK {a : Addr} {kvs : List (Key × V)} (e : H a = some (.dK kvs)) : TyOf K H (.ref a) (.type "dict")
  | dT {a : Addr} {kvs : List (List Key × V)} (e : H a = some (.dT kvs)) : TyOf K H (.ref a) (.type "dict")
  | ins {a C dx : Addr} {fs : List (Str × V)} (e : H a = some (.ins C dx fs)) (cl : Cls K C) (ha : PySem.W.findIn K (.ref C) "__class__" = some (some (.builtin "object.__class__")))
      (hn : PySem.W.specialIn K (.builtin "object.__class__") "__get__" = some (some (.builtin "getset_descriptor.__get__"))) (htk : PySem.W.takesIn K (.builtin "object.__class__") = some true)
      (hm : PySem.W.mroIn K C (.type "object") = some true) : TyOf K H (.ref a) (.ref C)
/-- isinstance(x, c) for one class c, a built-in or an own one: kitOne's answer -/
theorem isinst_ok {x : V} {u t : Value} (I : Inv X pins σ H s) (rx : RelV x u) (ty : TyOf X.K H x t) (e : PySem.W.kitOne X.K t c = some b) (h : ∀ tk, Q (.bool b) { s with toks := tk }) :
    wpAny (model X.prog X.w) A (call (.builtin "isinstance") [u, c]) Q E s := by
  cases ty with
  | non => cases (show u = Value.none from rx); exact PySem.W.kia_one PySem.W.kitx_none I.kIn True.intro e (fun z => nomatch z) h
  | bl y => cases (show u = Value.bool y from rx); exact PySem.W.kia_one PySem.W.kitx_bool I.kIn True.intro e (fun z => nomatch z) h
  | int i => obtain ⟨t, q⟩ := (show ∃ t, u = Value.int i t from rx); cases q; exact PySem.W.kia_one PySem.W.kitx_int I.kIn True.intro e (fun z => nomatch z) h
  | str y => obtain ⟨t, q⟩ := (show ∃ t, u = Value.str y t from rx); cases q; exact PySem.W.kia_one PySem.W.kitx_str I.kIn True.intro e (fun z => nomatch z) h
  | flt y => obtain ⟨t, q⟩ := (show ∃ t, u = Value.float y t from rx); cases q; exact PySem.W.kia_one PySem.W.kitx_float I.kIn True.intro e (fun z => nomatch z) h
  | @lst a xs ea =>
    cases (show u = Value.ref a from rx)
    obtain ⟨_, _, n, _, h1⟩ := (show ObjOk X.prog X.w H s.heap a (.lst xs) from I.hok a _ ea)
    exact PySem.W.kia_one PySem.W.kitx_list I.kIn ⟨_, h1, rfl⟩ e (fun z => nomatch z) h
  | @frz a ob xs ea =>
    cases (show u = Value.ref a from rx)
    obtain ⟨_, _, _, n, _, h1⟩ := (show ObjOk X.prog X.w H s.heap a (.frz ob (.lst xs)) from I.hok a _ ea)
    exact PySem.W.kia_one PySem.W.kitx_list I.kIn ⟨_, h1, rfl⟩ e (fun z => nomatch z) h
  | @tup a xs ea =>
    cases (show u = Value.ref a from rx)
    obtain ⟨_, _, _, p⟩ := (show ObjOk X.prog X.w H s.heap a (.tup xs) from I.hok a _ ea)
    obtain ⟨o, h1, h2, _⟩ := p
    exact PySem.W.kia_one PySem.W.kitx_tuple I.kIn ⟨o, h1, h2⟩ e (fun z => nomatch z) h
  | @dK a kvs ea =>
    cases (show u = Value.ref a from rx)
    obtain ⟨_, _, vs, _, p⟩ := (show ObjOk X.prog X.w H s.heap a (.dK kvs) from I.hok a _ ea)
    obtain ⟨o, es, ep, h1, h2, _⟩ := p
    exact PySem.W.kia_one PySem.W.kitx_dict I.kIn ⟨o, h1, h2.1⟩ e (fun z => nomatch z) h
  | @dT a kvs ea =>
    cases (show u = Value.ref a from rx)
    obtain ⟨_, _, xs, _, o, es, ep, h1, h2, _⟩ := (show ObjOk X.prog X.w H s.heap a (.dT kvs) from I.hok a _ ea)
    exact PySem.W.kia_one PySem.W.kitx_dict I.kIn ⟨o, h1, h2.1⟩ e (fun z => nomatch z) h
  | @ins a C dx fs ea cl ha hn htk hm =>
    cases (show u = Value.ref a from rx)
    obtain ⟨mA, O, _⟩ := ins_get I.hok ea
    obtain ⟨od, J, _⟩ := O.look
    exact PySem.W.kia_one (PySem.W.kitx_own (cl.get _) cl.hd ha hn htk hm) I.kIn J e (fun z => nomatch z) h
end
end L2

namespace L2
open PySem PySem.Spec PyProof.Rows

/-! ### room -/
structure Room (k : Nat) (A : Around) : Prop where
  hd : A.handled = none
  dp : A.depth + 3 * k + 5 < recursionLimit
  un : A.units + 16 * k + 200 < cLine
theorem Room.mono {j k : Nat} {A : Around} (r : Room k A) (h : j ≤ k) : Room j A := ⟨r.hd, by have := r.dp; omega, by have := r.un; omega⟩
theorem Room.deeper {k : Nat} {A : Around} (r : Room (k + 1) A) (env : Env) : Room k (A.deeper env) :=
  ⟨r.hd, by have := r.dp; show A.depth + 1 + 3 * k + 5 < _; omega, by have := r.un; show A.units + 3 + 16 * k + 200 < _; omega⟩
theorem Room.depth {k : Nat} {A : Around} (r : Room k A) : A.depth < recursionLimit := by have := r.dp; omega
theorem Room.units {k : Nat} {A : Around} (r : Room k A) : A.units + 64 < cLine := by have := r.un; omega
/-! ### argument lists and displays -/
def tNil : TA := fun _ H Q => Q [] H
def tCons (ta : TE) (tr : TA) : TA := fun σ H Q => ta σ H fun x H1 => tr σ H1 fun xs H2 => Q (x :: xs) H2
section
variable {X : Cx} {e : Expr} {es : List Expr} {te : TE} {t : TA} {pos : Pos}
theorem pa_nil : PA X [] tNil := fun _ _ _ _ H Q I h => Calls.spliced_nil ⟨[], H, I, .nil, h⟩
theorem pa_cons (ha : PE X e te) (hr : PA X es t) (hs : starEach (e :: es) X.env = (false, eval e X.env) :: starEach es X.env := by rfl) : PA X (e :: es) (tCons te t) := by
  intro pos pins s σ H Q I h
  rw [hs]
  show wpAny _ _ (spliced ((false, eval e X.env) :: backTo pos (starEach es X.env))) _ _ s
  refine Calls.spliced_cons (thn (ha pins s σ H _ I h) fun u s1 ⟨x, H1, I1, r1, q1⟩ => ?_)
  exact thn (hr pos pins s1 σ H1 _ I1 q1) fun us s2 ⟨xs, H2, I2, r2, q2⟩ => ⟨x :: xs, H2, I2, .cons r1 r2, q2⟩

/-- a tuple, a list of written items -/
def tTup (t : TA) : TE := fun σ H Q => t σ H fun xs H1 => xs.length ≤ sizeLine ∧ ∀ p, H1 p = none → Q (.ref p) (upd H1 p (.tup xs))
def tLst (t : TA) : TE := fun σ H Q => t σ H fun xs H1 => xs.length ≤ sizeLine ∧ ∀ p, H1 p = none → Q (.ref p) (upd H1 p (.lst xs))
theorem pe_tup {x1} (h : PA X es t) : PE X (.Tuple es x1 pos) (tTup t) := by
  intro pins s σ H Q I hq
  refine wpAny_Tuple_spliced (thn (h pos pins s σ H _ I hq) fun us s1 ⟨xs, H1, I1, r, z, q⟩ => ⟨by rw [← r.length]; exact z, ?_⟩)
  have hf : H1 s1.heap.objs.size = none := I1.hok.fresh (Nat.le_refl _)
  refine ⟨.ref s1.heap.objs.size, upd H1 s1.heap.objs.size (.tup xs), I1.laid (t' := s1.toks) (fun b u e => Heap.get?_push_of_some _ e) (Nat.le_refl _) ?_, rfl, q _ hf⟩
  exact ⟨z, us, r, ⟨_, Heap.get?_push_size _ rfl, rfl, _, rfl⟩⟩
theorem pe_lst (h : PA X es t) : PE X (.List es pos) (tLst t) := by
  intro pins s σ H Q I hq
  refine wpAny_List_spliced (thn (h pos pins s σ H _ I hq) fun us s1 ⟨xs, H1, I1, r, z, q⟩ => ⟨by rw [← r.length]; exact z, ?_⟩)
  have hf : H1 s1.heap.objs.size = none := I1.hok.fresh (Nat.le_refl _)
  refine ⟨.ref s1.heap.objs.size, upd H1 s1.heap.objs.size (.lst xs), I1.laid (t' := s1.toks) (fun b u e => Heap.get?_push_of_some _ e) (Nat.le_refl _) ?_, rfl, q _ hf⟩
  exact ⟨z, us, 0, r, Heap.get?_push_size _ rfl⟩
end

/-! ### what a def promises -/
/-- a def's promise: the bound arguments in the parameters' order, the heap, the wanted end, the wanted exception -/
abbrev Sp := List V → Hp → VK → XK → Prop
/-- how an exception lies behind a call (file 08 gives it): the callers' frames, abstract heap and state ahead of the call, the wish, the exception, the state -/
abbrev CXT := List Env → Hp → Shared → XK → Value → Shared → Prop

/-- the state at a call -/
structure Env0 (P : Program) (w : World) (K : PySem.W.Frag) (mg : Str → Option Value) (base : Heap) (A : Around) (outer : List Env) (s : Shared) (H : Hp) : Prop where
  frames : A.frames = some outer
  mod : Mod K mg base
  bs : ∀ b o, base.get? b = some o → s.heap.get? b = some o ∧ H b = none
  bsz : base.objs.size ≤ s.heap.objs.size
  funs : s.heap.FunFrames base outer
  frf : ∀ b ∈ frs outer, H b = none
  hok : HOk P w H s.heap
  bare : AllBare s.gens
/-- a call's end -/
def CE (outer : List Env) (P : Program) (w : World) (H : Hp) (s : Shared) (Q : VK) (u : Value) (s' : Shared) : Prop :=
  ∃ v H', s'.os = s.os ∧ AllBare s'.gens ∧ Un (frs outer) [] H H' s.heap s'.heap ∧ HOk P w H' s'.heap ∧ RelV v u ∧ Q v H'
def CR (CX : CXT) (outer : List Env) (P : Program) (w : World) (H : Hp) (s : Shared) (Q : VK) (E : XK) (r : Result) (s' : Shared) : Prop :=
  match r with
  | .ok (.ret u) => CE outer P w H s Q u s'
  | .ok _ => False
  | .error e => CX outer H s E e s'
structure FnOk (P : Program) (w : World) (K : PySem.W.Frag) (mg : Str → Option Value) (base : Heap) (CX : CXT) (k : Nat) (f : Addr) (fd : FuncData) (ps : List Str) (sp : Sp) : Prop where
  len : ∀ vs H Q E, sp vs H Q E → vs.length = ps.length
  run : ∀ (A : Around) (outer : List Env) (s : Shared) (H : Hp) (args : Args) (us : List Value) (vs : List V) (Q : VK) (E : XK), Room k A → Env0 P w K mg base A outer s H → BindsTo s fd args (ps.zip us) → Vals vs us → sp vs H Q E →
    codeAny (model P w) A (.call (.ref f) args) (CR CX outer P w H s Q E) s
theorem FnOk.mono {P : Program} {w : World} {K : PySem.W.Frag} {mg : Str → Option Value} {base : Heap} {CX : CXT} {j k : Nat} {f : Addr} {fd : FuncData} {ps : List Str} {sp : Sp} (F : FnOk P w K mg base CX j f fd ps sp) (h : j ≤ k) :
    FnOk P w K mg base CX k f fd ps sp := ⟨F.len, fun A outer s H args us vs Q E hr => F.run A outer s H args us vs Q E (hr.mono h)⟩
section
variable {X : Cx} {pins : List (Addr × Obj)} {σ : St} {H : Hp} {s s' : Shared}
/-- from a body: what a callee wants -/
theorem Inv.env0 (I : Inv X pins σ H s) : Env0 X.prog X.w X.K X.mg X.base X.A X.stack s H :=
  ⟨I.ok.frames, I.ok.mod, I.bs, Nat.le_trans I.ok.bsz I.sz, I.stack, I.stkFree, I.hok, I.bare⟩
/-- behind a call -/
theorem Inv.after {Q : VK} {u : Value} (I : Inv X pins σ H s) (h : CE X.stack X.prog X.w H s Q u s') : EP X pins σ Q u s' := by
  obtain ⟨v, H', os, bare, un, hok, r, q⟩ := h
  obtain ⟨hh, g, d, t, os'⟩ := s'
  obtain rfl : os' = s.os := os
  exact ⟨v, H', I.call (h' := hh) (g' := g) (d' := d) (t' := t) (ch := []) un hok bare (fun b z => absurd z (by simp)), r, q⟩
end

/-! ### calls -/
/-- f(..): the written arguments, then the defaults dvs; E: what is wanted of an exception -/
def tCall (sp : Sp) (dvs : List V) (E : XK) (t : TA) : TE := fun σ H Q => t σ H fun vs H1 => sp (vs ++ dvs) H1 Q E
/-- o.m(..) of an instance of the class at C -/
def tMeth (C : Addr) (m : Str) (sp : Sp) (dvs : List V) (E : XK) (ta : TE) (t : TA) : TE := fun σ H Q => ta σ H fun x H1 => ∃ a dx fs, x = .ref a ∧ H1 a = some (.ins C dx fs) ∧ fs.lookup m = none ∧
  t σ H1 fun vs H2 => sp (x :: (vs ++ dvs)) H2 Q E
/-- C(..): a new instance and its dict, then __init__ -/
def tMake (C : Addr) (sp : Sp) (dvs : List V) (E : XK) (t : TA) : TE := fun σ H Q => t σ H fun vs H1 => ∀ x dx, H1 x = none → H1 dx = none → dx ≠ x →
  sp (.ref x :: (vs ++ dvs)) (upd (upd H1 dx (.own x)) x (.ins C dx [])) (fun v H2 => v = .non ∧ Q (.ref x) H2) E

/-- how the parameters are bound: us the positional arguments, kw the keywords' values by name, ds the defaults that fill up -/
def Binds (K : PySem.W.Frag) (fd : FuncData) (ps : List Str) (ds : List Value) : Prop :=
  ∀ (s : Shared) (us : List Value), K.In s.heap → (us ++ ds).length = ps.length → BindsTo s fd ⟨us, []⟩ (ps.zip (us ++ ds))
/-- every parameter is given -/
theorem Binds.all {K : PySem.W.Frag} {fd : FuncData} {ps : List Str} (h : ∀ us : List Value, us.length = ps.length → bindArgs fd ⟨us, []⟩ = pure (ps.zip us)) : Binds K fd ps [] := fun s us _ hl => by
  rw [List.append_nil] at hl ⊢
  exact .of_eq (h us hl)

/-- an exception of a callee reaches what this body wants of exceptions -/
def Passes (CX : CXT) (X : Cx) (E : XK) : Prop := ∀ (pins : List (Addr × Obj)) (σ : St) (H : Hp) (s : Shared) (e : Value) (s' : Shared), Inv X pins σ H s → CX X.stack H s E e s' → X.xe e s'

section
variable {X : Cx} {CX : CXT} {k : Nat} {f C : Addr} {fd : FuncData} {ps : List Str} {sp : Sp} {dvs : List V} {ds : List Value} {E : XK} {x m : Str} {p pos apos : Pos} {e o : Expr} {es : List Expr} {ta : TE} {t : TA}

/-- the callee runs -/
theorem run_fn {pins : List (Addr × Obj)} {σ : St} {H : Hp} {s : Shared} {Q : VK} {us : List Value} {vs : List V} (F : FnOk X.prog X.w X.K X.mg X.base CX k f fd ps sp) (hr : Room k X.A) (hb : Binds X.K fd ps ds) (hd : Vals dvs ds) (hx : Passes CX X E)
    (I : Inv X pins σ H s) (r : Vals vs us) (h : sp (vs ++ dvs) H Q E) : wpAny (model X.prog X.w) X.A (call (.ref f) us) (EP X pins σ Q) X.xe s := by
  have r2 : Vals (vs ++ dvs) (us ++ ds) := r.append hd
  have hl : (us ++ ds).length = ps.length := by rw [← r2.length]; exact F.len _ _ _ _ h
  refine wpAny_call (codeAny_mono (F.run X.A X.stack s H ⟨us, []⟩ (us ++ ds) (vs ++ dvs) Q E hr I.env0 (hb s us I.kIn hl) r2 h) fun r s' hq => ?_)
  cases r with
  | error e => exact hx pins σ H s e s' I hq
  | ok fl =>
    cases fl with
    | ret u => exact I.after hq
    | next => exact False.elim hq
    | brk => exact False.elim hq
    | cont => exact False.elim hq

theorem pe_call (F : FnOk X.prog X.w X.K X.mg X.base CX k f fd ps sp) (hr : Room k X.A) (hg : Gl X x) (hm : X.mg x = some (.ref f)) (hk : PySem.W.keepIn X.K (.ref f) = true) (hb : Binds X.K fd ps ds) (hd : Vals dvs ds) (hx : Passes CX X E)
    (ha : PA X (e :: es) t) (hdb : (x == ("__debug__" : Str)) = false := by decide) (he : starEach (e :: es) X.env = (false, eval e X.env) :: starEach es X.env := by rfl) (hpl : (backTo pos (starEach es X.env)).any (·.1) = false := by rfl) :
    PE X (.Call (.Name x p) (e :: es) [] pos) (tCall sp dvs E t) := by
  intro pins s σ H Q I h
  refine wpAny_Call_Name_kw (ld_glob I hg hm ?_ hdb)
  refine PySem.W.callWith_K (h₀ := X.base) I.ok.mod.kin hk (thn (ha pos pins s σ H _ I h) fun us s1 ⟨vs, H1, I1, r, q⟩ => ⟨I1.kIn, ?_⟩) he hpl
  exact run_fn F hr hb hd hx I1 r q
/-- what a class must have to be made -/
structure Mk (K : PySem.W.Frag) (C f : Addr) : Prop where
  makes : PySem.W.makesIn K C = true
  init : PySem.W.findIn K (.ref C) "__init__" = some (some (.ref f))
  fn : PySem.W.isFn K (.ref f) = true
  kp : PySem.W.keepIn K (.ref C) = true

end

/-! ### keywords -/
/-- the values of the keywords, from the left -/
def PK (X : Cx) (kws : List Keyword) (t : TA) : Prop :=
  ∀ (pos : Pos) (pins : List (Addr × Obj)) (s : Shared) (σ : St) (H : Hp) (Q : List V → Hp → Prop), Inv X pins σ H s → t σ H Q → wpAny (model X.prog X.w) X.A (evalAll ((backToKw pos (keywordEach kws X.env)).map (·.2))) (AP X pins σ Q) X.xe s
section
variable {X : Cx} {CX : CXT} {k : Nat} {f C : Addr} {fd : FuncData} {ps ks : List Str} {sp : Sp} {E : XK} {x m : Str} {p pos apos kpos : Pos} {e o : Expr} {es : List Expr} {kws : List Keyword} {te ta : TE} {t tk : TA} {nm : Option Str}
/-- how a call with keywords binds: g puts the positional values us and the keywords' values ws (names ks) in the parameters' order, defaults among them -/
structure KBinds (K : PySem.W.Frag) (fd : FuncData) (ps ks : List Str) (g : List Value → List Value → List Value) (gV : List V → List V → List V) : Prop where
  to : ∀ (s : Shared) (us ws : List Value), K.In s.heap → (g us ws).length = ps.length → BindsTo s fd ⟨us, ks.zip ws⟩ (ps.zip (g us ws))
  rel : ∀ {vs : List V} {us : List Value} {zs : List V} {ws : List Value}, Vals vs us → Vals zs ws → Vals (gV vs zs) (g us ws)
def tCallK (sp : Sp) (gV : List V → List V → List V) (E : XK) (t tk : TA) : TE := fun σ H Q => t σ H fun vs H1 => tk σ H1 fun zs H2 => sp (gV vs zs) H2 Q E
variable {g : List Value → List Value → List Value} {gV : List V → List V → List V}
end

/-! ### a def's body keeps its promise -/
/-- names: the parameters first -/
structure FnScope (N P : List Str) (sc : Scope) : Prop where
  kind : sc.kind = .function
  co : sc.isCoroutine = false
  gen : sc.isGenerator = false
  nd : N.Nodup
  pre : N.take P.length = P
  par : ∀ x ∈ P, sc.names.lookup x = some .local ∨ sc.names.lookup x = some .cell
  nofree : ∀ y ∈ sc.names, y.2 ≠ .free

theorem bindL_out {kindOf : Str → Option NameKind} {x : Str} : ∀ {binds : List (Str × Value)} {m : Str → Option Value}, (∀ v, (x, v) ∉ binds) → bindL kindOf binds m x = m x
  | [], _, _ => rfl
  | (n, v) :: r, m, h => by
    unfold bindL
    rw [bindL_out fun w hw => h w (List.mem_cons_of_mem _ hw)]
    split
    · have : x ≠ n := by rintro rfl; exact h v List.mem_cons_self
      simp [this]
    · rfl
theorem bindC_out {kindOf : Str → Option NameKind} {x : Str} : ∀ {binds : List (Str × Value)} {m : Str → Option Value}, (∀ v, (x, v) ∉ binds) → bindC kindOf binds m x = m x
  | [], _, _ => rfl
  | (n, v) :: r, m, h => by
    unfold bindC
    rw [bindC_out fun w hw => h w (List.mem_cons_of_mem _ hw)]
    split
    · rfl
    · have : x ≠ n := by rintro rfl; exact h v List.mem_cons_self
      simp [this]
theorem bindL_get {kindOf : Str → Option NameKind} {x : Str} {v : Value} : ∀ {P : List Str} {vs : List Value} {i : Nat} {m : Str → Option Value}, P.Nodup → P[i]? = some x → vs[i]? = some v → kindOf x = some .local →
    bindL kindOf (P.zip vs) m x = some v
  | [], _, _, _, _, h, _, _ => by simp at h
  | _ :: _, [], _, _, _, _, h, _ => by simp at h
  | p :: P, w :: vs, 0, m, nd, h1, h2, hk => by
    simp at h1 h2; subst h1; subst h2
    show bindL kindOf ((p, w) :: P.zip vs) m p = _
    unfold bindL
    rw [bindL_out fun v hv => (List.nodup_cons.mp nd).1 (List.of_mem_zip hv).1, if_pos hk]
    simp
  | p :: P, w :: vs, i + 1, m, nd, h1, h2, hk => by
    show bindL kindOf ((p, w) :: P.zip vs) m x = _
    unfold bindL
    exact bindL_get (i := i) (List.nodup_cons.mp nd).2 (by simpa using h1) (by simpa using h2) hk
theorem bindC_get {kindOf : Str → Option NameKind} {x : Str} {v : Value} : ∀ {P : List Str} {vs : List Value} {i : Nat} {m : Str → Option Value}, P.Nodup → P[i]? = some x → vs[i]? = some v → kindOf x ≠ some .local →
    bindC kindOf (P.zip vs) m x = some v
  | [], _, _, _, _, h, _, _ => by simp at h
  | _ :: _, [], _, _, _, _, h, _ => by simp at h
  | p :: P, w :: vs, 0, m, nd, h1, h2, hk => by
    simp at h1 h2; subst h1; subst h2
    show bindC kindOf ((p, w) :: P.zip vs) m p = _
    unfold bindC
    rw [bindC_out fun v hv => (List.nodup_cons.mp nd).1 (List.of_mem_zip hv).1, if_neg hk]
    simp
  | p :: P, w :: vs, i + 1, m, nd, h1, h2, hk => by
    show bindC kindOf ((p, w) :: P.zip vs) m x = _
    unfold bindC
    exact bindC_get (i := i) (List.nodup_cons.mp nd).2 (by simpa using h1) (by simpa using h2) hk

/-- the names' values at the entry -/
def start (N : List Str) (vs : List V) : St := vs.map some ++ List.replicate (N.length - vs.length) none

/-- the context of a def's body, at its entry; an exception leaves the frame, then lies as CX says -/
def cxOf (CX : CXT) (P : Program) (w : World) (K : PySem.W.Frag) (mg : Str → Option Value) (base : Heap) (N : List Str) (qual : Str) (scope : Scope) (f : Addr) (cd : Value) (A : Around) (outer : List Env) (s : Shared) (H : Hp) (E : XK) : Cx where
  prog := P
  w := w
  K := K
  mg := mg
  base := base
  A := A.deeper (envOfC qual scope s.heap.objs.size f cd)
  N := N
  s₀ := s
  H₀ := H
  env := envOfC qual scope s.heap.objs.size f cd
  outer := outer
  stack := envOfC qual scope s.heap.objs.size f cd :: outer
  ex := []
  calm := true
  fn := fun _ => true
  pn := []
  xe := fun e s' => wpAny (model P w) (A.deeper (envOfC qual scope s.heap.objs.size f cd)) (leaving (envOfC qual scope s.heap.objs.size f cd) e) (fun _ s'' => CX outer H s E e s'') (fun e' s'' => CX outer H s E e' s'') s'

theorem cell_has {sc : Scope} {n : Nat} {x : Str} (h : sc.names.lookup x = some .cell) : ∃ c, (cellsFrom n sc.names []).lookup x = some c := by
  have q := PySem.W.cellsFrom_some sc.names n [] (.inl h)
  exact Option.isSome_iff_exists.mp q

theorem inv_start {CX : CXT} {P : Program} {w : World} {K : PySem.W.Frag} {mg : Str → Option Value} {base : Heap} {N ps : List Str} {qual : Str} {scope : Scope} {f : Addr} {cd : Value} {A : Around} {outer : List Env} {s s1 : Shared} {H : Hp} {E : XK} {us : List Value} {vs : List V}
    (S : FnScope N ps scope) (hd : A.handled = none) (e0 : Env0 P w K mg base A outer s H) (hl : vs.length = ps.length) (r : Vals vs us)
    (x : InCallC s s.heap.objs.size (bindL (envOfC qual scope s.heap.objs.size f cd).kindOf (ps.zip us) fun _ => none) (cellsFrom (s.heap.objs.size + 1) scope.names []) (bindC (envOfC qual scope s.heap.objs.size f cd).kindOf (ps.zip us) fun _ => none) s1) :
    Inv (cxOf CX P w K mg base N qual scope f cd A outer s H E) [] (start N vs) H s1 := by
  have hpl : ps.length ≤ N.length := by have := congrArg List.length S.pre; rw [List.length_take] at this; omega
  obtain ⟨h1, tk, rfl, hk⟩ := x.done
  have noA : ∀ b : Addr, b ∉ (cxOf CX P w K mg base N qual scope f cd A outer s H E).ex := fun b z => absurd (show b ∈ ([] : List Addr) from z) (by simp)
  refine ⟨⟨e0.mod, S.kind, rfl, rfl, Nat.le_refl _, fun y z c h1 h2 => ?_, fun y hy => ?_, fun y c _ h => ?_, fun _ => hd, Around.frames_deeper e0.frames, .inr ⟨rfl, rfl⟩, fun b z => absurd z (noA b), e0.bs, e0.bsz, fun b _ _ => noA b, fun b z => absurd z (noA b), e0.funs, e0.frf⟩,
    rfl, e0.bare, Un.kept hk, ⟨_, x.toInCall.ns, fun i y v h1 h2 h3 => ?_⟩, fun y c h => ⟨_, x.cell y c h⟩, e0.hok.fresh (Nat.le_refl _), fun y c h => ?_, fun p hp => absurd (show p ∈ ([] : List (Addr × Obj)) from hp) (by simp), e0.hok.kept hk, ?_⟩
  · exact name_of_addr x.apart (PySem.mem_of_lookup h1) (PySem.mem_of_lookup h2)
  · have hy : scope.names.lookup y = some .cell ∨ scope.names.lookup y = some .free := hy
    rcases hy with hy | hy
    · exact cell_has hy
    · exact absurd rfl (S.nofree _ (PySem.mem_of_lookup hy))
  · exact Nat.le_of_lt (x.above y c (PySem.mem_of_lookup h))
  · have hi : i < vs.length := by
      unfold start at h2
      by_cases hi : i < vs.length
      · exact hi
      · rw [List.getElem?_append_right (by simpa using hi)] at h2
        rw [List.getElem?_replicate] at h2
        split at h2 <;> cases h2
    have ha : vs[i]? = some v := by
      unfold start at h2
      rw [List.getElem?_append_left (by simpa using hi), List.getElem?_map] at h2
      cases e : vs[i]? with
      | none => rw [e] at h2; cases h2
      | some a => rw [e] at h2; cases h2; rfl
    obtain ⟨u, hu, rv⟩ := r.get ha
    have hp : ps[i]? = some y := by
      rw [← S.pre, List.getElem?_take_of_lt (by omega)]; exact h1
    have ndP : ps.Nodup := by rw [← S.pre]; exact S.nd.sublist (List.take_sublist _ _)
    refine ⟨u, rv, ?_⟩
    rcases S.par y (List.mem_of_getElem? hp) with k | k
    · exact .inl ⟨k, bindL_get ndP hp hu k⟩
    · obtain ⟨c, e⟩ := cell_has (n := s.heap.objs.size + 1) k
      refine .inr ⟨.inl k, c, e, ?_⟩
      have q := x.cell y c e
      rw [bindC_get ndP hp hu (by show scope.names.lookup y ≠ _; rw [k]; decide)] at q
      exact q
  · exact e0.hok.fresh (Nat.le_of_lt (x.above y c (PySem.mem_of_lookup h)))
  · unfold start
    show _ = N.length
    rw [List.length_append, List.length_map, List.length_replicate]
    omega

/-- THE RULE: a def (or a method) of the text, by its body. The body's reading t is chosen for each entry; it is run at the parameters' values -/
theorem fn_of {CX : CXT} {P : Program} {w : World} {K : PySem.W.Frag} {mg : Str → Option Value} {base : Heap} {k : Nat} {f : Addr} {name qual : Str} {params : Arguments} {body : List Stmt} {scope : Scope} {dV kV doc pm cdv ct oc : Value} {an od : Option Addr}
    {osl : Array (Option Value)} {N ps : List Str} {sp : Sp} (lk : K.lookup f = some ⟨oc, od, .func (PySem.W.fnOf name qual params body scope dV kV doc pm an cdv ct), osl⟩) (hcd : PySem.W.codeIn K cdv qual = true) (S : FnScope N ps scope)
    (len : ∀ vs H Q E, sp vs H Q E → vs.length = ps.length)
    (hbody : ∀ (A : Around) (outer : List Env) (s : Shared) (H : Hp) (vs : List V) (Q : VK) (E : XK), Room k (A.deeper (envOfC qual scope s.heap.objs.size f cdv)) → sp vs H Q E →
      ∃ t, PSs (cxOf CX P w K mg base N qual scope f cdv A outer s H E) body t ∧ t { nx := fun _ H' => Q .non H', rt := Q } (start N vs) H) :
    FnOk P w K mg base CX (k + 1) f (PySem.W.fnOf name qual params body scope dV kV doc pm an cdv ct) ps sp := by
  refine ⟨len, fun A outer s H args us vs Q E hr e0 hb r hsp => ?_⟩
  have hl := len _ _ _ _ hsp
  have KX : K.In s.heap := e0.mod.kin.keeps fun b o e => (e0.bs b o e).1
  have lim : s.heap.NoLimit := e0.mod.nolimit.keeps fun b o e => (e0.bs b o e).1
  have hkind : ∀ y ∈ ps.zip us, scope.names.lookup y.1 = some .local ∨ (scope.names.lookup y.1 = some .cell ∧ ((cellsFrom (s.heap.objs.size + 1) scope.names []).lookup y.1).isSome = true) := fun ⟨n, v⟩ hy => by
    rcases S.par n (List.of_mem_zip hy).1 with q | q
    · exact .inl q
    · exact .inr ⟨q, PySem.W.cellsFrom_some _ _ _ (.inl q)⟩
  refine codeAny_call_function hr.depth (KX _ _ lk) rfl S.co S.gen rfl (PySem.W.codeRec_of KX hcd) (hb _ _ _ _ ?_)
  refine wpAny_newFunctionEnv_cells S.kind hkind fun env he s1 x => ?_
  subst he
  refine ⟨lim.keeps x.toInCall.keep, codeAny_func ?_⟩
  obtain ⟨t, ht, hq⟩ := hbody A outer s H vs Q E (hr.deeper _) hsp
  have I : Inv (cxOf CX P w K mg base N qual scope f cdv A outer s H E) [] (start N vs) H s1 := inv_start S hr.hd e0 hl r x
  refine wpAny_mono (ht [] s1 (start N vs) H _ I hq) (fun fl s' hs => ?_) fun e s' hs => hs
  have fin : ∀ {σ' : St} {H' : Hp} {v : V} {u : Value}, Inv (cxOf CX P w K mg base N qual scope f cdv A outer s H E) [] σ' H' s' → RelV v u → Q v H' → CE outer P w H s Q u s' :=
    fun {σ' H' v u} J rv q => ⟨v, H', J.os, J.bare, J.base, J.hok, rv, q⟩
  cases fl with
  | ret u =>
    obtain ⟨v, σ', H', J, rv, q⟩ := hs
    exact fin J rv q
  | next =>
    obtain ⟨σ', H', J, q⟩ := hs
    exact fin (v := V.non) (u := Value.none) J rfl q
  | brk =>
    obtain ⟨_, _, _, q⟩ := hs
    exact False.elim q
  | cont =>
    obtain ⟨_, _, _, q⟩ := hs
    exact False.elim q
end L2

namespace L2
open PySem PySem.Spec PyProof.Rows
section
variable {X : Cx} {x : Str} {p pos : Pos} {e : Expr} {es : List Expr} {t : TA} {id T : String} {r : List V → Hp → VK → Prop}

def tCB (r : List V → Hp → VK → Prop) (t : TA) : TE := fun σ H Q => t σ H fun vs H1 => r vs H1 Q
/-- f(e, ..), f a built-in function -/
theorem pe_callB (hc : CallR X (.builtin id) r) (hg : Gl X x) (hm : X.mg x = none) (hv : bootBuiltins x = some (.builtin id)) (ha : PA X (e :: es) t) (hn : x ≠ "__name__" := by decide) (hdb : (x == ("__debug__" : Str)) = false := by decide)
    (he : starEach (e :: es) X.env = (false, eval e X.env) :: starEach es X.env := by rfl) (hpl : (backTo pos (starEach es X.env)).any (·.1) = false := by rfl) : PE X (.Call (.Name x p) (e :: es) [] pos) (tCB r t) := by
  intro pins s σ H Q I h
  refine wpAny_Call_Name_kw (ld_blt I hg hm hv ?_ hn hdb)
  exact PyProof.Rows.callWith_builtin1 (thn (ha pos pins s σ H _ I h) fun us s1 ⟨vs, H1, I1, r1, q1⟩ => hc pins s1 σ H1 vs us Q I1 r1 q1) he hpl
/-- T(e, ..), T a built-in type -/
theorem pe_callTy (hc : CallR X (.type T) r) (hg : Gl X x) (hm : X.mg x = none) (hv : bootBuiltins x = some (.type T)) (ha : PA X (e :: es) t) (hn : x ≠ "__name__" := by decide) (hdb : (x == ("__debug__" : Str)) = false := by decide)
    (he : starEach (e :: es) X.env = (false, eval e X.env) :: starEach es X.env := by rfl) (hpl : (backTo pos (starEach es X.env)).any (·.1) = false := by rfl) : PE X (.Call (.Name x p) (e :: es) [] pos) (tCB r t) := by
  intro pins s σ H Q I h
  refine wpAny_Call_Name_kw (ld_blt I hg hm hv ?_ hn hdb)
  exact PyProof.Rows.callWith_type1 (thn (ha pos pins s σ H _ I h) fun us s1 ⟨vs, H1, I1, r1, q1⟩ => hc pins s1 σ H1 vs us Q I1 r1 q1) he hpl
end
end L2

namespace HT
open PySem PyProof.Rows

/-- t < u of tuples of ints -/
def lexLt : List Int → List Int → Bool
  | [], [] => false
  | [], _ :: _ => true
  | _ :: _, [] => false
  | x :: xs, y :: ys => if x = y then lexLt xs ys else decide (x < y)
section
open PySem.SeqAt
open PySem.AutoSeq1 (wpAny_loadPart')
open PySem.MeetsSeq PySem.MeetsSeq2 PySem.MeetsSeq3

end

section
variable {prog : Program} {w : World} {A : Around} {E : Value → Shared → Prop} {s : Shared}

/-! ### t[a:b], not the whole -/
/-- a slice's bound as a place among n (d where it is left out) -/
def sIx (n d : Nat) : Option Int → Nat
  | none => d
  | some v => if v < 0 then (v + (n : Int)).toNat else min v.toNat n
theorem sIx_none (n d : Nat) : sIx n d none = d := rfl
theorem sIx_nat (n d k : Nat) : sIx n d (some (k : Int)) = min k n := by
  show (if (k : Int) < 0 then ((k : Int) + (n : Int)).toNat else min (k : Int).toNat n) = min k n
  rw [if_neg (by omega), Int.toNat_natCast]
end
end HT

namespace L2
open PySem PySem.Spec PyProof.Rows

/-! ### the parts of a slice -/
abbrev TO := St → Hp → (Option Int → Hp → Prop) → Prop
/-- a slice's part (left out, or an int) -/
def PO (X : Cx) (e : Option Expr) (t : TO) : Prop :=
  ∀ (pins : List (Addr × Obj)) (s : Shared) (σ : St) (H : Hp) (Q : Option Int → Hp → Prop), Inv X pins σ H s → t σ H Q →
    wpAny (model X.prog X.w) X.A (evalPart e X.env) (fun u s' => ∃ o H', Inv X pins σ H' s' ∧ IsPart u o ∧ Q o H') X.xe s
def tNoPart : TO := fun _ H Q => Q none H
def tPart (t : TE) : TO := fun σ H Q => t σ H fun x H1 => ∃ i, x = .int i ∧ Q (some i) H1

section
variable {X : Cx} {e : Expr} {te : TE} {lo hi : Option Expr} {tl th : TO} {pos p2 : Pos}

theorem po_none : PO X none tNoPart := by
  intro pins s σ H Q I h
  rw [evalPart_none]
  exact wpAny_pure ⟨none, H, I, .none, h⟩
theorem po_some (h : PE X e te) : PO X (some e) (tPart te) := by
  intro pins s σ H Q I hw
  rw [evalPart_some]
  refine thn (h pins s σ H _ I hw) fun u s1 ⟨x, H1, I1, r1, q1⟩ => ?_
  obtain ⟨i, rfl, q⟩ := q1
  obtain ⟨t, rfl⟩ := r1
  exact ⟨some i, H1, I1, .int i t, q⟩

/-- what a slice of a value is, by values: the slice object stands at sl -/
def SlR (X : Cx) (r : V → Option Int → Option Int → Hp → VK → Prop) : Prop :=
  ∀ (pins : List (Addr × Obj)) (s : Shared) (σ : St) (H : Hp) (x : V) (v vl vu : Value) (lo hi : Option Int) (sl : Addr) (Q : VK), Inv X pins σ H s → RelV x v → s.heap.IsSliceOf sl vl vu .none → IsPart vl lo → IsPart vu hi → r x lo hi H Q →
    ∃ T id, typeLookup (.type T) "__getitem__" = pure (some (.builtin id)) ∧ s.TypeIs v T ∧ wpAny (model X.prog X.w) X.A (getItem v (.ref sl)) (EP X pins σ Q) X.xe s
def tSl (r : V → Option Int → Option Int → Hp → VK → Prop) (te : TE) (tl th : TO) : TE := fun σ H Q => te σ H fun x H1 => tl σ H1 fun l H2 => th σ H2 fun u H3 => r x l u H3 Q
/-- a[lo:hi], any a -/
theorem pe_slice {r : V → Option Int → Option Int → Hp → VK → Prop} (hr : SlR X r) (he : PE X e te) (hl : PO X lo tl) (hu : PO X hi th) : PE X (.Subscript e (.Slice lo hi none p2) pos) (tSl r te tl th) := by
  intro pins s σ H Q I h
  refine Subscript_ (thn (he pins s σ H _ I h) fun v s1 ⟨x, H1, I1, r1, q1⟩ => ?_)
  refine wpAny_Slice (thn (hl pins s1 σ H1 _ I1 q1) fun vl s2 ⟨l, H2, I2, pl, q2⟩ => thn (hu pins s2 σ H2 _ I2 q2) fun vu s3 ⟨u, H3, I3, pu, q3⟩ => ?_)
  rw [evalPart_none]
  refine wpAny_pure ?_
  have I4 : Inv X pins σ H3 { s3 with heap := s3.heap.push { cls := .type "slice", data := .fields #[vl, vu, .none] } } := I3.kept (t' := s3.toks) fun b ob q => Heap.get?_push_of_some _ q
  obtain ⟨T, id, hT, ht, hg⟩ := hr pins { s3 with heap := s3.heap.push { cls := .type "slice", data := .fields #[vl, vu, .none] } } σ H3 x v vl vu l u s3.heap.objs.size Q I4 r1 (Heap.IsSliceOf.new ..) pl pu q3
  show wpAny (model X.prog X.w) X.A (subscriptTail e (.Slice lo hi none p2) v (.ref s3.heap.objs.size)) (EP X pins σ Q) X.xe { s3 with heap := s3.heap.push { cls := .type "slice", data := .fields #[vl, vu, .none] } }
  exact tail_any (ops := [.ref s3.heap.objs.size, v]) ht hT hg (by with_unfolding_all rfl)

/-- the items of xs[lo:hi] -/
def cutV (xs : List V) (lo hi : Option Int) : List V := (xs.drop (HT.sIx xs.length 0 lo)).take (HT.sIx xs.length xs.length hi - HT.sIx xs.length 0 lo)
theorem cutV_length (xs : List V) (lo hi : Option Int) : (cutV xs lo hi).length ≤ xs.length := by
  unfold cutV
  rw [List.length_take, List.length_drop]
  omega
/-- t[lo:hi], not the whole of it (the whole would be t itself) -/
def rSlT (K : PySem.W.Frag) : V → Option Int → Option Int → Hp → VK → Prop := fun x lo hi H Q => ∃ a xs, x = .ref a ∧ SqT K H a xs ∧
  ¬ (HT.sIx xs.length 0 lo = 0 ∧ HT.sIx xs.length xs.length hi = xs.length) ∧ ∀ p, H p = none → Q (.ref p) (upd H p (.tup (cutV xs lo hi)))
/-! ### t < u, t + u -/
def rLtT (K : PySem.W.Frag) : R2 := fun x y H Q => ∃ a b ns ms, x = .ref a ∧ y = .ref b ∧ SqT K H a (ns.map V.int) ∧ SqT K H b (ms.map V.int) ∧ Q (.bl (HT.lexLt ns ms)) H
/-- t + u, t not empty: u empty gives t itself -/
def rCatT (K : PySem.W.Frag) : R2 := fun x y H Q => ∃ a b xs ys, x = .ref a ∧ y = .ref b ∧ SqT K H a xs ∧ SqT K H b ys ∧ xs ≠ [] ∧ xs.length + ys.length ≤ sizeLine ∧
  (ys = [] → Q (.ref a) H) ∧ (ys ≠ [] → ∀ p, H p = none → Q (.ref p) (upd H p (.tup (xs ++ ys))))
end
end L2

namespace L2
open PySem PySem.Spec PyProof.Rows

/-! ### places -/
/-- the place that an index of any sign means -/
def ixN (n : Nat) (i : Int) : Option Nat := if 0 ≤ i then (if i < n then some i.toNat else none) else if -(n : Int) ≤ i then some (i + n).toNat else none
def atI {α : Type} (xs : List α) (i : Int) : Option α := (ixN xs.length i).bind fun j => xs[j]?
theorem ixN_seq {n : Nat} {i : Int} {j : Nat} (h : ixN n i = some j) : seqIndex? i n = some j ∧ j < n ∧ -(n : Int) ≤ i ∧ i < n := by
  unfold ixN at h
  by_cases h0 : 0 ≤ i
  · rw [if_pos h0] at h
    by_cases h1 : i < n
    · rw [if_pos h1] at h
      have e : i.toNat = j := Option.some.inj h
      exact ⟨by rw [seqIndex_of h0 h1, e], by omega, by omega, h1⟩
    · rw [if_neg h1] at h; cases h
  · rw [if_neg h0] at h
    by_cases h1 : -(n : Int) ≤ i
    · rw [if_pos h1] at h
      have e : (i + n).toNat = j := Option.some.inj h
      exact ⟨by rw [seqIndex_neg (by omega) h1, e], by omega, h1, by omega⟩
    · rw [if_neg h1] at h; cases h
theorem atI_get {α : Type} {xs : List α} {i : Int} {v : α} (h : atI xs i = some v) : ∃ j, seqIndex? i xs.length = some j ∧ xs[j]? = some v ∧ j < xs.length ∧ -(xs.length : Int) ≤ i ∧ i < xs.length := by
  unfold atI at h
  cases e : ixN xs.length i with
  | none => rw [e] at h; cases h
  | some j =>
    rw [e] at h
    obtain ⟨h1, h2, h3, h4⟩ := ixN_seq e
    exact ⟨j, h1, h, h2, h3, h4⟩
theorem atI_nat {α : Type} {xs : List α} {j : Nat} {v : α} (h : xs[j]? = some v) : atI xs (j : Int) = some v := by
  have hj : j < xs.length := (List.getElem?_eq_some_iff.mp h).1
  have e : ixN xs.length (j : Int) = some j := by
    unfold ixN
    rw [if_pos (by omega), if_pos (by omega)]; simp
  unfold atI; rw [e]; exact h
/-! ### what may be subscripted -/
/-- what stands as an index of a plain subscript -/
def PlainIx (b : Expr) : Prop := ∀ o i, subscripted b false o i = operate [o, i] (getItem o i)
/-- a subscript by values -/
def IxR (X : Cx) (r : R2) : Prop :=
  ∀ (value slice : Expr) (pins : List (Addr × Obj)) (s : Shared) (σ : St) (H : Hp) (x y : V) (v u : Value) (Q : VK), Inv X pins σ H s → RelV x v → RelV y u → r x y H Q →
    subscripted slice false v u = operate [v, u] (getItem v u) → wpAny (model X.prog X.w) X.A (subscriptTail value slice v u) (EP X pins σ Q) X.xe s
/-- a call of a builtin's method by values: the receiver, the arguments -/
def MtR (X : Cx) (id : String) (r : V → List V → Hp → VK → Prop) : Prop :=
  ∀ (pins : List (Addr × Obj)) (s : Shared) (σ : St) (H : Hp) (x : V) (xs : List V) (v : Value) (us : List Value) (Q : VK), Inv X pins σ H s → RelV x v → Vals xs us → r x xs H Q →
    wpAny (model X.prog X.w) X.A (call (.builtin id) (v :: us)) (EP X pins σ Q) X.xe s
section
variable {X : Cx} {a b : Expr} {ta tb : TE} {pos : Pos}
/-- a[b] -/
theorem pe_ix {r : R2} (hr : IxR X r) (ha : PE X a ta) (hb : PE X b tb) (hs : PlainIx b) : PE X (.Subscript a b pos) (tOp r ta tb) := by
  intro pins s σ H Q I h
  exact Subscript_ (binT ha hb I h fun v u s2 x y H2 I2 rx ry q => hr a b pins s2 σ H2 x y v u Q I2 rx ry q (hs _ _))

def rIxL (K : PySem.W.Frag) : R2 := fun x y H Q => ∃ p xs i v, x = .ref p ∧ y = .int i ∧ SqL K H p xs ∧ atI xs i = some v ∧ Q v H
def rIxT (K : PySem.W.Frag) : R2 := fun x y H Q => ∃ p xs i v, x = .ref p ∧ y = .int i ∧ SqT K H p xs ∧ atI xs i = some v ∧ Q v H
def rIxS : R2 := fun x y H Q => ∃ z i c, x = .str z ∧ y = .int i ∧ z.length ≤ sizeLine ∧ atI z.cps.toList i = some c ∧ Q (.str ⟨#[c]⟩) H
theorem ix_list : IxR X (rIxL X.K) := by
  intro value slice pins s σ H x y v u Q I rx ry h hs
  obtain ⟨p, xs, i, z, rfl, rfl, hq, he, q⟩ := h
  cases rx
  obtain ⟨t, rfl⟩ := ry
  obtain ⟨its, r, pl, hz⟩ := I.list hq
  obtain ⟨j, h1, h2, h3, h4, h5⟩ := atI_get he
  obtain ⟨w, ew, rw'⟩ := r.get h2
  have hl := r.length
  have hn := line63
  have fin : EP X pins σ Q w s := ⟨z, H, I, rw', q⟩
  by_cases h0 : 0 ≤ i
  · have hj : i.toNat = j := by
      rw [seqIndex_of h0 h5] at h1
      exact Option.some.inj h1
    exact item_listR pl.isList h0 (by omega) (by rw [hj]; simpa using ew) fin hs
  · have hj : (i + (its.toArray.size : Int)).toNat = j := by
      rw [seqIndex_neg (by omega) h4] at h1
      rw [List.size_toArray, ← hl]
      exact Option.some.inj h1
    exact subscriptTail_builtinR (x := w) pl.isList.typeIs slot_list_getitem.lookup
      (wpAny_getItem_list_neg (Q := fun r s' => r = w ∧ EP X pins σ Q r s') pl.isList (by omega) (by rw [List.size_toArray] <;> omega) (by omega) (by rw [hj]; simpa using ew) ⟨rfl, fin⟩) hs
/-- list, tuple or str -/
def rIx (K : PySem.W.Frag) : R2 := fun x y H Q => rIxL K x y H Q ∨ rIxT K x y H Q ∨ rIxS x y H Q
/-! ### xs[i] = v, any sign -/
/-- the list's object behind a store -/
theorem mapSeq_set (its : List Value) (n j : Nat) (u : Value) : Obj.mapSeq (·.setIfInBounds j u) { cls := .type "list", data := .seq its.toArray n } = { cls := .type "list", data := .seq (its.set j u).toArray n } := by
  simp [Obj.mapSeq]
theorem Inv.lst {pins : List (Addr × Obj)} {σ : St} {H : Hp} {s : Shared} {p : Addr} {xs : List V} (I : Inv X pins σ H s) (h : H p = some (.lst xs)) :
    ∃ (its : List Value) (n : Nat), Vals xs its ∧ s.heap.get? p = some { cls := .type "list", data := .seq its.toArray n } ∧ xs.length ≤ sizeLine := by
  obtain ⟨z, its, n, r, e⟩ := I.hok p _ h
  exact ⟨its, n, r, e, z⟩
/-- the list at p is written by an update of its object -/
theorem Inv.lstUpd {pins : List (Addr × Obj)} {σ : St} {H : Hp} {s : Shared} {p : Addr} {xs ys : List V} {its its' : List Value} {n n' : Nat} {f : Obj → Obj} (I : Inv X pins σ H s) (h : H p = some (.lst xs))
    (ho : s.heap.get? p = some { cls := .type "list", data := .seq its.toArray n }) (hf : f { cls := .type "list", data := .seq its.toArray n } = { cls := .type "list", data := .seq its'.toArray n' }) (r : Vals ys its') (hz : ys.length ≤ sizeLine) (t : Nat) :
    Inv X pins σ (upd H p (.lst ys)) { s with heap := s.heap.update p f, toks := t } := by
  have e : (s.heap.update p f).get? p = some { cls := .type "list", data := .seq its'.toArray n' } := by
    rw [Heap.get?_update_self f ho (by rw [hf] <;> rfl), hf]
  refine I.write (x := p) (e := p) (by rw [h]; trivial) (.inl rfl) (fun b u hb q => (Heap.get?_update_other _ _ (Ne.symm hb)).trans q) ⟨_, e⟩ ?_
  exact ⟨hz, its', n', r, e⟩
def rSetL : V → V → V → Hp → (Hp → Prop) → Prop := fun o i v H Q => ∃ p xs k j, o = .ref p ∧ i = .int k ∧ H p = some (.lst xs) ∧ ixN xs.length k = some j ∧ Q (upd H p (.lst (xs.set j v)))
theorem set_list : PSet X rSetL := by
  intro pins s σ H o i v ov iv u Q I ro ri rv h
  obtain ⟨p, xs, k, j, rfl, rfl, hp, hj, q⟩ := h
  cases ro
  obtain ⟨t, rfl⟩ := ri
  obtain ⟨its, n, r, ho, hz⟩ := I.lst hp
  obtain ⟨h1, h2, h3, h4⟩ := ixN_seq hj
  have hl := r.length
  have hn := line63
  have I' : Inv X pins σ (upd H p (.lst (xs.set j v))) { s with heap := s.heap.update p (Obj.mapSeq (·.setIfInBounds j u)) } :=
    I.lstUpd hp ho (mapSeq_set its n j u) (r.set rv j) (by rw [List.length_set]; exact hz) s.toks
  by_cases h0 : 0 ≤ k
  · have hk : k.toNat = j := by
      rw [seqIndex_of h0 h4] at h1
      exact Option.some.inj h1
    exact PySem.W.ki_setAt ho h0 (by omega) (by rw [List.size_toArray, ← hl]; exact h4) (by rw [hk]; exact ⟨_, I', q⟩)
  · have hk : (k + (its.toArray.size : Int)).toNat = j := by
      rw [seqIndex_neg (by omega) h3] at h1
      rw [List.size_toArray, ← hl]
      exact Option.some.inj h1
    exact PySem.W.ki_setBack ho (by omega) (by rw [List.size_toArray, ← hl]; exact h3) (by omega) (by rw [hk]; exact ⟨_, I', q⟩)

/-! ### slices -/
theorem slice_bounds (lo hi : Option Int) (n : Nat) : (sliceBounds lo hi none n).1 = ((HT.sIx n 0 lo : Nat) : Int) ∧ (sliceBounds lo hi none n).2.1 = ((HT.sIx n n hi : Nat) : Int) ∧ (sliceBounds lo hi none n).2.2 = 1 := by
  refine ⟨?_, ?_, rfl⟩
  · cases lo with
    | none => simp [sliceBounds, HT.sIx]
    | some i =>
      simp only [sliceBounds, HT.sIx, Option.getD_none, show (1 : Int) > 0 by decide, if_true]
      by_cases h : i < 0
      · simp only [h, if_true] <;> omega
      · simp only [h, if_false] <;> omega
  · cases hi with
    | none => simp [sliceBounds, HT.sIx]
    | some i =>
      simp only [sliceBounds, HT.sIx, Option.getD_none, show (1 : Int) > 0 by decide, if_true]
      by_cases h : i < 0
      · simp only [h, if_true] <;> omega
      · simp only [h, if_false] <;> omega
theorem slicePick_cut (its : List Value) (lo hi : Option Int) : slicePick its.toArray lo hi none = ((its.drop (HT.sIx its.length 0 lo)).take (HT.sIx its.length its.length hi - HT.sIx its.length 0 lo)).toArray := by
  obtain ⟨h1, h2, h3⟩ := slice_bounds lo hi its.toArray.size
  unfold slicePick
  rw [h1, h2, h3]
  simp only [sliceRange_one, pick_run, List.size_toArray] <;> rfl
/-- xs[lo:hi] of a list: a new list -/
def rSlL (K : PySem.W.Frag) : V → Option Int → Option Int → Hp → VK → Prop := fun x lo hi H Q => ∃ a xs, x = .ref a ∧ SqL K H a xs ∧ ∀ p, H p = none → Q (.ref p) (upd H p (.lst (cutV xs lo hi)))
theorem sl_list : SlR X (rSlL X.K) := by
  intro pins s σ H x v vl vu lo hi sl Q I rx hs pl pu h
  obtain ⟨a, xs, rfl, hx, q⟩ := h
  cases rx
  obtain ⟨its, r, ht, hz⟩ := I.list hx
  have hlen := r.length
  refine ⟨"list", _, slot_list_getitem.lookup, ht.isList.typeIs, ?_⟩
  refine wpAny_getItem_list_slice ht.isList hs pl pu .none (by simp) ?_ (by rw [List.size_toArray] <;> omega)
  rw [slicePick_cut, ← hlen]
  refine ⟨.ref s.heap.objs.size, _, I.laid (t' := s.toks) (o := .lst (cutV xs lo hi)) (fun b ob q => Heap.get?_push_of_some _ q) (Nat.le_refl _) ?_, rfl, q _ (I.hok.fresh (Nat.le_refl _))⟩
  exact ⟨Nat.le_trans (cutV_length xs lo hi) hz, _, 0, (r.drop (HT.sIx xs.length 0 lo)).take (HT.sIx xs.length xs.length hi - HT.sIx xs.length 0 lo), Heap.get?_push_size _ rfl⟩

/-! ### in, not in: flat items -/
def flatV : V → Bool
  | .non => true
  | .bl _ => true
  | .int _ => true
  | .str _ => true
  | _ => false
/-- == of flat values -/
def eqV : V → V → Bool
  | .non, .non => true
  | .bl a, .bl b => a == b
  | .bl a, .int b => (if a then 1 else 0) == b
  | .int a, .bl b => a == (if b then 1 else 0)
  | .int a, .int b => a == b
  | .str a, .str b => a == b
  | _, _ => false
/-- the items' answers, read off the values (a value's own answer does not lean on its token) -/
def eqU (x : V) (u : Value) : Bool := match u with
  | .none => eqV .non x
  | .bool b => eqV (.bl b) x
  | .int i _ => eqV (.int i) x
  | .str z _ => eqV (.str z) x
  | _ => false
def inV (x : V) (xs : List V) : Bool := xs.any fun y => eqV y x
/-- x in a list or tuple of flat items -/
def rIn (K : PySem.W.Frag) (neg : Bool) : R2 := fun x y H Q => ∃ p xs, y = .ref p ∧ (SqL K H p xs ∨ SqT K H p xs) ∧ flatV x = true ∧ xs.all flatV = true ∧ Q (.bl (if neg then !inV x xs else inV x xs)) H
/-! ### len, list(x), tuple(x) of any list or tuple that is read -/
theorem call_len_seq : CallR X (.builtin "len") (fun xs H Q => ∃ p ys, xs = [.ref p] ∧ (SqL X.K H p ys ∨ SqT X.K H p ys) ∧ Q (.int ys.length) H) := by
  intro pins s σ H xs us Q I r h
  obtain ⟨p, ys, rfl, hq, q⟩ := h
  obtain ⟨u, rfl, rx⟩ := vals1 r
  cases rx
  have hn := line63
  rcases hq with hq | hq
  · obtain ⟨its, r', pl, hz⟩ := I.list hq
    have hlen := r'.length
    exact Calls.call_len_list pl.isList (by simp only [List.size_toArray] <;> omega) ⟨.int ys.length, H, I.tok _, ⟨s.toks + 1, by rw [List.size_toArray, hlen]⟩, q⟩
  · obtain ⟨its, r', pl, hz⟩ := I.tuple hq
    have hlen := r'.length
    exact len_tuple pl (by simp only [List.size_toArray] <;> omega) ⟨.int ys.length, H, I.tok _, ⟨s.toks + 1, by rw [List.size_toArray, hlen]⟩, q⟩
theorem call_list_of : CallR X (.type "list") (fun xs H Q => ∃ p ys, xs = [.ref p] ∧ (SqL X.K H p ys ∨ SqT X.K H p ys) ∧ ∀ l, H l = none → Q (.ref l) (upd H l (.lst ys))) := by
  intro pins s σ H xs us Q I r h
  obtain ⟨p, ys, rfl, hq, q⟩ := h
  obtain ⟨u, rfl, rx⟩ := vals1 r
  cases rx
  have fin : ∀ (its : List Value), Vals ys its → ys.length ≤ sizeLine → ∀ (h' : Heap) (c' : Nat), (∀ b o', s.heap.get? b = some o' → h'.get? b = some o') →
      h'.get? s.heap.objs.size = some { cls := .type "list", dict := none, data := .seq its.toArray c', slots := #[] } → EP X pins σ Q (.ref s.heap.objs.size) { s with heap := h' } := fun its r' hz h' c' kp e =>
    ⟨.ref s.heap.objs.size, _, I.laid (t' := s.toks) kp (Nat.le_refl _) (show ObjOk X.prog X.w _ h' _ (.lst ys) from ⟨hz, its, c', r', e⟩), rfl, q _ (I.hok.fresh (Nat.le_refl _))⟩
  rcases hq with hq | hq
  · obtain ⟨its, r', pl, hz⟩ := I.list hq
    have hlen := r'.length
    obtain ⟨o, ho, hc, n, hd⟩ := pl.isList
    exact call_list_seq p (.inl rfl) ho hc hd (fun h' c' kp e => fin its r' hz h' c' kp e) (by simp only [List.size_toArray] <;> omega)
  · obtain ⟨its, r', pl, hz⟩ := I.tuple hq
    have hlen := r'.length
    obtain ⟨o, ho, hc, n, hd⟩ := pl
    exact call_list_seq p (.inr rfl) ho hc hd (fun h' c' kp e => fin its r' hz h' c' kp e) (by simp only [List.size_toArray] <;> omega)
/-! ### the call of a builtin's method: o.m(..) -/
/-- the value is of that builtin type -/
def tyV (K : PySem.W.Frag) (T : String) (x : V) (H : Hp) : Prop := match x with
  | .str _ => T = "str"
  | .int _ => T = "int"
  | .ref p => (T = "list" ∧ ∃ xs, SqL K H p xs) ∨ (T = "tuple" ∧ ∃ o, K.lookup p = some o ∧ o.cls = .type "tuple" ∧ o.dict = none) ∨
      (T = "dict" ∧ ((∃ kvs, H p = some (.dK kvs)) ∨ ∃ kvs, H p = some (.dT kvs))) ∨ (T = "set" ∧ ∃ S n, H p = some (.set S n))
  | _ => False
theorem tyV_is {pins : List (Addr × Obj)} {σ : St} {H : Hp} {s : Shared} {T : String} {x : V} {v : Value} (I : Inv X pins σ H s) (r : RelV x v) (ty : tyV X.K T x H) :
    s.TypeIs v T ∧ ∀ a, v = .ref a → ∃ ob, s.heap.get? a = some ob ∧ ob.dict = none := by
  cases x with
  | str z =>
    obtain ⟨t, rfl⟩ := r
    cases (show T = "str" from ty)
    exact ⟨typeIs_str s z t, fun _ e => nomatch e⟩
  | int i =>
    obtain ⟨t, rfl⟩ := r
    cases (show T = "int" from ty)
    exact ⟨typeIs_int s i t, fun _ e => nomatch e⟩
  | ref p =>
    cases r
    rcases ty with ⟨rfl, xs, hq⟩ | ⟨rfl, o, hk, hc, hd⟩ | ⟨rfl, hk⟩ | ⟨rfl, S, n, hk⟩
    · obtain ⟨its, _, pl, _⟩ := I.list hq
      refine ⟨pl.isList.typeIs, fun a e => ?_⟩
      cases e
      obtain ⟨o, n, e, c, hd, _⟩ := pl
      exact ⟨o, e, hd⟩
    · refine ⟨⟨o, I.kIn p o hk, hc⟩, fun a e => ?_⟩
      cases e
      exact ⟨o, I.kIn _ o hk, hd⟩
    · have z : ∃ o, s.heap.get? p = some o ∧ o.ExactDict := by
        rcases hk with ⟨kvs, hk⟩ | ⟨kvs, hk⟩
        · obtain ⟨_, _, _, _, o, _, _, e, ex, _⟩ := I.hok p _ hk
          exact ⟨o, e, ex⟩
        · obtain ⟨_, _, _, _, o, _, _, e, ex, _⟩ := I.hok p _ hk
          exact ⟨o, e, ex⟩
      obtain ⟨o, e, ex⟩ := z
      refine ⟨⟨o, e, ex.1⟩, fun a e2 => ?_⟩
      cases e2
      exact ⟨o, e, ex.2.1⟩
    · obtain ⟨o, _, _, _, e, ex, _⟩ := I.hok p _ hk
      refine ⟨⟨o, e, ex.1⟩, fun a e2 => ?_⟩
      cases e2
      exact ⟨o, e, ex.2.1⟩
  | _ => exact False.elim ty
def tBM0 (K : PySem.W.Frag) (T : String) (r : V → List V → Hp → VK → Prop) (to : TE) : TE := fun σ H Q => to σ H fun x H1 => tyV K T x H1 ∧ r x [] H1 Q
def tBM (K : PySem.W.Frag) (T : String) (r : V → List V → Hp → VK → Prop) (to : TE) (t : TA) : TE := fun σ H Q => to σ H fun x H1 => tyV K T x H1 ∧ t σ H1 fun xs H2 => r x xs H2 Q
variable {o e : Expr} {es : List Expr} {to : TE} {t : TA} {name : Str} {apos cpos : Pos} {T id : String} {r : V → List V → Hp → VK → Prop}
theorem pe_bm (pa : PlainAttrs T) (slot : Slot T name id) (hty : typeOf (.builtin id) = pure (.type "method_descriptor")) (hm : MtR X id r) (ho : PE X o to) (ha : PA X (e :: es) t)
    (hbase : attributeBase o name X.env (eval o X.env) = eval o X.env := by rfl)
    (hfew : ((backTo cpos (starEach (e :: es) X.env)).all (fun x => !x.1) && (backToKw cpos (keywordEach [] X.env)).all (fun x => x.1.isSome)
      && decide ((e :: es).length + ([] : List Keyword).length + (if ([] : List Keyword).isEmpty then 0 else 1) < 30)) = true := by rfl)
    (hline : (apos.endLine == cpos.line) = true := by rfl) (hs : starEach (e :: es) X.env = (false, eval e X.env) :: starEach es X.env := by rfl) (hplain : (backTo cpos (starEach es X.env)).any (·.1) = false := by rfl) :
    PE X (.Call (.Attribute o name apos) (e :: es) [] cpos) (tBM X.K T r to t) := by
  intro pins s σ H Q I h
  refine wpAny_Call_method_late hbase hfew hline rfl (thn (ho pins s σ H _ I h) fun v s1 ⟨x, H1, I1, r1, ty, q1⟩ => ?_)
  obtain ⟨h1, h2⟩ := tyV_is I1 r1 ty
  refine ⟨T, id, pa, slot, hty, h1, h2, ?_⟩
  have hA := ha cpos pins s1 σ H1 _ I1 q1
  rw [hs] at hA ⊢
  refine Calls.callWith_builtin (by show (false || (backTo cpos (starEach es X.env)).any (·.1)) = false; rw [hplain] <;> rfl) (Calls.evalArgs_plain ?_)
  exact thn hA fun us s2 ⟨vs, H2, I2, r2, q2⟩ => hm pins s2 σ H2 x vs v us Q I2 r1 r2 q2
/- xs.append(e), list.index on a module's tuple .. are MtR facts of 06m -/
end
end L2

namespace L2
open PySem PySem.Spec PyProof.Rows

def MtM (X : Cx) (id : String) (r : V → List V → Hp → VK → Prop) : Prop :=
  ∀ (pins : List (Addr × Obj)) (s : Shared) (σ : St) (H : Hp) (x : V) (xs : List V) (v : Value) (us : List Value) (Q : VK), Inv X pins σ H s → RelV x v → Vals xs us → r x xs H Q →
    wpAny (model X.prog X.w) X.A (call (.builtin id) (v :: us)) (EP X pins σ Q) X.xe s

/-! ### lists of values -/
theorem Vals.one : ∀ {x : V} {us : List Value}, Vals [x] us → ∃ u, us = [u] ∧ RelV x u
  | _, _, .cons r .nil => ⟨_, rfl, r⟩
section
variable {X : Cx} {pins : List (Addr × Obj)} {σ : St} {H : Hp} {s : Shared} {l b : Addr} {xs ys zs : List V}

/-! ### the two steps: a tracked list is rewritten, a new list is laid -/
theorem Inv.lset {its its' : List Value} {n : Nat} {f : Array Value → Array Value} {t' : Nat} (I : Inv X pins σ H s) (hH : H l = some (.lst xs))
    (e : s.heap.get? l = some { cls := .type "list", data := .seq its.toArray n }) (hf : f its.toArray = its'.toArray) (hv : Vals ys its') (hz : ys.length ≤ sizeLine) :
    Inv X pins σ (upd H l (.lst ys)) { s with heap := s.heap.update l (Obj.mapSeq f), toks := t' } := by
  have q := PySem.IsL.update e f
  rw [hf] at q
  refine I.write (x := l) (e := l) (by rw [hH]; exact trivial) (.inl rfl) (fun b' u hb hu => (Heap.get?_update_other s.heap (Obj.mapSeq f) (Ne.symm hb)).trans hu) ⟨_, q⟩ ?_
  exact ⟨hz, its', _, hv, q⟩
theorem Inv.lnew {its : List Value} {t' : Nat} (I : Inv X pins σ H s) (hv : Vals ys its) (hz : ys.length ≤ sizeLine) :
    Inv X pins σ (upd H s.heap.objs.size (.lst ys)) { s with heap := s.heap.push { cls := .type "list", data := .seq its.toArray }, toks := t' } :=
  I.laid (fun _ _ q => Heap.get?_push_of_some _ q) (Nat.le_refl _) ⟨hz, its, 0, hv, Heap.get?_push_size _ rfl⟩
theorem Inv.fresh (I : Inv X pins σ H s) : H s.heap.objs.size = none := I.hok.fresh (Nat.le_refl _)
theorem Inv.lstM (I : Inv X pins σ H s) (hH : H l = some (.lst xs)) : xs.length ≤ sizeLine ∧ ∃ (its : List Value) (n : Nat), Vals xs its ∧ xs.length = its.length ∧ s.heap.get? l = some { cls := .type "list", data := .seq its.toArray n } := by
  obtain ⟨z, its, n, r, e⟩ := I.hok l _ hH
  exact ⟨z, its, n, r, r.length, e⟩

end

section
variable {X : Cx}

/-! ### methods -/
def rAppend : V → List V → Hp → VK → Prop := fun x vs H Q => ∃ l xs y, x = .ref l ∧ vs = [y] ∧ H l = some (.lst xs) ∧ xs.length < sizeLine ∧ Q .non (upd H l (.lst (xs ++ [y])))
theorem mt_append : MtM X "list.append" rAppend := by
  intro pins s σ H x vs v us Q I rx rv h
  obtain ⟨l, xs, y, rfl, rfl, hH, hz, q⟩ := h
  cases rx
  obtain ⟨u, rfl, ru⟩ := rv.one
  obtain ⟨z, its, n, r, hl, e⟩ := I.lstM hH
  refine call_meets F.slot_list_append ⟨_, e, rfl⟩ F.entry_list_append (F.args_list_append_2 _ _) (PySem.list_append l its.toArray n u (by rw [List.size_toArray]; omega)) ⟨e, ?_⟩
  refine ⟨.non, _, I.lset (its' := its ++ [u]) hH e (by simp) (r.append (.cons ru .nil)) ?_, rfl, q⟩
  rw [List.length_append, List.length_singleton]
  omega

def rExtend : V → List V → Hp → VK → Prop := fun x vs H Q => ∃ l b xs zs, x = .ref l ∧ vs = [.ref b] ∧ H l = some (.lst xs) ∧ H b = some (.lst zs) ∧ xs.length + zs.length ≤ sizeLine ∧ Q .non (upd H l (.lst (xs ++ zs)))
def rPop : V → List V → Hp → VK → Prop := fun x vs H Q => ∃ l xs y, x = .ref l ∧ vs = [] ∧ H l = some (.lst xs) ∧ xs[xs.length - 1]? = some y ∧ Q y (upd H l (.lst xs.dropLast))
def rPopAt : V → List V → Hp → VK → Prop := fun x vs H Q => ∃ l xs i k y, x = .ref l ∧ vs = [.int i] ∧ H l = some (.lst xs) ∧ -(2 ^ 63) ≤ i ∧ i < 2 ^ 63 ∧ seqIndex? i xs.length = some k ∧ xs[k]? = some y ∧ Q y (upd H l (.lst (xs.eraseIdx k)))
def rReverse : V → List V → Hp → VK → Prop := fun x vs H Q => ∃ l xs, x = .ref l ∧ vs = [] ∧ H l = some (.lst xs) ∧ Q .non (upd H l (.lst xs.reverse))
def rClear : V → List V → Hp → VK → Prop := fun x vs H Q => ∃ l xs, x = .ref l ∧ vs = [] ∧ H l = some (.lst xs) ∧ Q .non (upd H l (.lst []))
/-! ### list + list, list += list, list * int -/
def rCat : R2 := fun x y H Q => ∃ l b xs zs, x = .ref l ∧ y = .ref b ∧ H l = some (.lst xs) ∧ H b = some (.lst zs) ∧ xs.length + zs.length ≤ sizeLine ∧ ∀ p, H p = none → Q (.ref p) (upd H p (.lst (xs ++ zs)))
theorem op_cat : OpR X (binaryOp .Add) rCat := by
  intro pins s σ H x y v u Q I rx ry h
  obtain ⟨l, b, xs, zs, rfl, rfl, hH, hB, hz, q⟩ := h
  cases rx
  cases ry
  obtain ⟨z, its, n, r, hl, e⟩ := I.lstM hH
  obtain ⟨z2, its2, n2, r2, hl2, e2⟩ := I.lstM hB
  refine PySem.P.add_list e e2 ?_ (by rw [List.size_toArray, List.size_toArray]; omega)
  have ea : its.toArray ++ its2.toArray = (its ++ its2).toArray := by simp
  rw [ea]
  exact ⟨.ref _, _, I.lnew (t' := s.toks) (r.append r2) (by rw [List.length_append]; omega), rfl, q _ I.fresh⟩
/-- a list times an int (a negative one is nothing) -/
def rRep : R2 := fun x y H Q => ∃ l k xs, x = .ref l ∧ y = .int k ∧ H l = some (.lst xs) ∧ -(2 ^ 63) ≤ k ∧ k < 2 ^ 63 ∧ xs.length * k.toNat ≤ sizeLine ∧
  ∀ p, H p = none → Q (.ref p) (upd H p (.lst (List.replicate k.toNat xs).flatten))
/-! ### del xs[i] -/
end

/-! ### xs[a:b] = ys -/
section
variable {prog : Program} {w : World} {A : Around} {E : Value → Shared → Prop} {s : Shared}
end

section
variable {X : Cx}
end
end L2

namespace Att
open PySem PySem.W PySem.Calls PyProof.Rows

/-! ### the script -/
theorem ints_of_wellAll {P : Params} {h : Heap} : ∀ (ns : List Int) (vs : List Value), WellAll P h vs (ns.map WData.int) → IntsAre vs ns := by
  intro ns
  induction ns with
  | nil =>
    intro vs w
    rw [List.map_nil] at w
    cases w
    exact .nil
  | cons n ns ih =>
    intro vs w
    rw [List.map_cons] at w
    cases w with
    | cons a b =>
      cases a
      exact .cons _ _ (ih _ b)

theorem script_of {l : OpenLaw} {n : Nat} (hn : l.most = some n) {P : Params} {h : Heap} {args : List WData} {vals : List Value}
    (hpre : l.row.toRowW.claim.pre args = true) (hwl : WellAll P h vals args) :
    ∃ a vs ns, vals = [Value.ref a] ∧ args = [WData.list (ns.map WData.int)] ∧ h.get? a = some { cls := .type "list", data := .seq vs.toArray } ∧ IntsAre vs ns ∧ ns.length ≤ n := by
  have hsh : WShape.hasAll [] args [.list .int] = true := (pre_splitW hpre).1
  have hc : l.pre.holds [] { args := args } = true := (pre_splitW hpre).2
  obtain ⟨d, r, rfl, h1, h2⟩ := hasAllW_cons hsh
  obtain rfl := hasAllW_nil h2
  obtain ⟨xs, rfl, h3⟩ := hasW_list h1
  obtain ⟨ns, rfl⟩ := items_int h3
  have hlen : ns.length ≤ n := by
    unfold OpenLaw.pre at hc
    have h4 : (WTm.not (.lt (.lit (.int (n : Int))) (.len (.arg 0)))).holds [] { args := [.list (ns.map .int)] } = true := by
      have h4 := (holds_andW hc).1
      rw [hn] at h4
      exact h4
    have h5 := condW_of h4 (w_not (w_lt w_lit (w_len_list (w_arg rfl))))
    rw [List.length_map] at h5
    refine Nat.le_of_not_lt fun q => ?_
    have q' : (n : Int) < ((ns.length : Nat) : Int) := by omega
    first
      | (rw [decide_eq_true q'] at h5; exact absurd h5 (by decide))
      | (simp at h5; omega)
  cases hwl with
  | cons w1 w2 =>
    cases w2
    cases w1 with
    | list ho hall => exact ⟨_, _, ns, rfl, rfl, ho, ints_of_wellAll ns _ hall, hlen⟩

theorem post_true (l : OpenLaw) (args : List WData) : l.row.toRowW.claim.post args (.bool true) args = true :=
  postW_of (r := l.row.toRowW) (X := (true == true))
    (show WShape.has [] (.bool true) .bool = true by first | rfl | decide | simp [WShape.has, WShape.arms, WShape.armsAll])
    (show (WTm.eq .res (.lit (.bool true))).value [] { args := args, res := some (.bool true), after := args } = some (.bool (true == true)) from w_eq_bool (w_res rfl) w_lit) rfl

/-! ### the attachment: holds_open's last premise (the goal 'hc' behind k_head) from a wpAny of the law's body -/
/-- the same from a codeAny of the CALL (for a layer whose function contracts speak of calls) -/
theorem attach_call {l : OpenLaw} {n : Nat} {q : Program} {loose : List Str} {XP : (Str → Option Value) → Heap → Prop} {YP : World → Heap → Prop} {d : DefRec}
    (hn : l.most = some n) (hdf : d.params.defaults = [])
    (call : ∀ (w : World) (s₀ s₁ : Shared) (mg mb : Str → Option Value) (fa : Addr) (o : Obj) (pm cd doc : Value) (a : Addr) (vs : List Value) (ns : List Int),
      Ground q loose [] XP w s₀ mg mb s₁.heap → YP w s₁.heap →
      s₁.heap.get? fa = some o → o.data = .func (docDef d.name d.params d.body d.scope pm cd doc) → s₁.heap.CodeRec cd d.name → mg d.name = some (.ref fa) →
      s₁.heap.get? a = some { cls := .type "list", data := .seq vs.toArray } → IntsAre vs ns → ns.length ≤ n → s₁.gens = #[] →
      codeAny (model l.prog w) callerA (.call (.ref fa) ⟨[.ref a], []⟩) (fun r s' => r = .ok (.ret (.bool true)) ∧ OldK s₁.heap s'.heap ∧ s'.os = s₁.os ∧ AllBare s'.gens) s₁) :
    WalkO q loose XP YP l.row.toRowW d [] (fun f vs => PySem.call f vs) := by
  intro w s₀ s₁ mg mb G Y fa o pm cd doc dV kV ho hd hcd hD hmg hg args vals as hpre hlay hrd hwl hlo
  obtain rfl : dV = .none := Dflts.none hD hdf
  obtain rfl : kV = .none := Dflts.noKw hD
  obtain ⟨a, vs, ns, rfl, rfl, hobj, hints, hlen⟩ := script_of hn hpre hwl
  refine enter_call (codeAny_mono (call w s₀ s₁ mg mb fa o pm cd doc a vs ns G Y ho (fd_plain hd) hcd hmg hobj hints hlen hg) fun r s' hq => ?_)
  obtain ⟨rfl, h2, h3, h4⟩ := hq
  exact ⟨.inl ⟨.bool true, .bool true, [], rfl, fun _ => rfl, .bool true, post_true l _, fun _ => ⟨List.Pairwise.nil, fun _ hm => (nomatch hm)⟩⟩, h2, h3, h4⟩

/-! ### rules over ANY heap (no ledger) from facts about the written part K: the library's own take a ledger (News) for what they write -/
section
variable {prog : Program} {w : World} {A : Around} {E : Value → Shared → Prop} {s : Shared} {K : Frag}

/-! the whole heap as the ledger: makes every rule that writes through a ledger a rule over any heap -/
def noObjs (h : Heap) : Heap := { h with objs := #[] }
def ledger (h : Heap) (L d : Addr) : List (Addr × Obj) := (List.range h.objs.size).filterMap fun a => if a = L ∨ a = d then none else (h.get? a).map fun o => (a, o)
end
end Att

namespace L2
open PySem PySem.Spec PyProof.Rows

theorem vals_ints : ∀ {vs : List Value} {ns : List Int}, IntsAre vs ns → Vals (ns.map V.int) vs
  | _, _, .nil => .nil
  | _, _, .cons n t h => .cons ⟨t, rfl⟩ (vals_ints h)

/-- nothing is tracked but the script, known to the object (or it is an object of the module) -/
def Only (H : Hp) : Prop := ∀ b, H b = none ∨ ∃ o xs, H b = some (.frz o (.lst xs))

/-- THE HEAD: the law's promise, at the heap behind the top. F, the promise of the law's def, may use that base is part of the heap (so K.In base, base.Ns mainGlobals mg stand in Mod) -/
theorem law_call {P : Program} {w : World} {K : PySem.W.Frag} {mg mb : Str → Option Value} {CX : CXT} {k : Nat} {fa a : Addr} {fd : FuncData} {x : Str} {sp : Sp} {s₁ : Shared} {vs : List Value} {ns : List Int}
    (KX : K.In s₁.heap) (hns : s₁.heap.Ns mainGlobals mg) (hb : s₁.heap.Ns builtinsNs mb) (hbb : ∀ x : Str, x ≠ "__name__" → mb x = bootBuiltins x) (hlim : s₁.heap.NoLimit) (hg : s₁.gens = #[])
    (ha : s₁.heap.get? a = some { cls := .type "list", data := .seq vs.toArray }) (hi : IntsAre vs ns) (hl : ns.length ≤ sizeLine) (hr : Room k callerA)
    (F : ∀ base : Heap, K.In base → base.Ns mainGlobals mg → FnOk P w K mg base CX k fa fd [x] sp) (hbind : ∀ (s : Shared) (u : Value), BindsTo s fd ⟨[u], []⟩ [(x, u)])
    (hsp : ∀ H : Hp, Only H → SqL K H a (ns.map V.int) → sp [.ref a] H (fun v _ => v = .bl true) fun _ _ _ => False)
    (hCX : ∀ H e s', CX [] H s₁ (fun _ _ _ => False) e s' → False) :
    codeAny (model P w) callerA (.call (.ref fa) ⟨[.ref a], []⟩) (fun r s' => r = .ok (.ret (.bool true)) ∧ OldK s₁.heap s'.heap ∧ s'.os = s₁.os ∧ AllBare s'.gens) s₁ := by
  have rv := vals_ints hi
  have lenV := hi.length
  -- from an abstract heap in which nothing but the script may be tracked
  have core : ∀ H : Hp, Only H → SqL K H a (ns.map V.int) → HOk P w H s₁.heap → (∀ b, H b ≠ none → b = a) → (H a ≠ none → K.lookup a = none) →
      codeAny (model P w) callerA (.call (.ref fa) ⟨[.ref a], []⟩) (fun r s' => r = .ok (.ret (.bool true)) ∧ OldK s₁.heap s'.heap ∧ s'.os = s₁.os ∧ AllBare s'.gens) s₁ := by
    intro H hO hS hok hA hK
    have base_of : ∀ {b : Addr} {o : Obj}, s₁.heap.get? b = some o → H b = none → (hidT s₁.heap H).get? b = some o := fun e n => hidT_get e n
    have noA : ∀ {b : Addr} {o : Obj} {es : Array DictEntry} {ep : Nat}, s₁.heap.get? b = some o → o.data = .dict es ep → H b = none := fun {b o es ep} e d => by
      cases q : H b with
      | none => rfl
      | some u =>
        have e' : b = a := hA b (by rw [q]; simp)
        subst e'
        rw [ha] at e; cases e
        have d' : Data.seq vs.toArray _ = Data.dict es ep := d
        cases d'
    have nsK : ∀ {b : Addr} {m : Str → Option Value}, s₁.heap.Ns b m → (hidT s₁.heap H).Ns b m := fun {b m} ⟨o, es, ep, e, d, r⟩ => ⟨o, es, ep, base_of e (noA e d), d, r⟩
    have hKb : K.In (hidT s₁.heap H) := fun b o e => base_of (KX b o e) (by
      cases q : H b with
      | none => rfl
      | some u =>
        have e' : b = a := hA b (by rw [q]; simp)
        subst e'
        rw [hK (by rw [q]; simp)] at e; cases e)
    have hM : Mod K mg (hidT s₁.heap H) := ⟨hKb, nsK hns, ⟨mb, nsK hb, hbb⟩, let ⟨mc, h1, h2⟩ := hlim; ⟨mc, nsK h1, h2⟩⟩
    have e0 : Env0 P w K mg (hidT s₁.heap H) callerA [] s₁ H := ⟨rfl, hM, fun b o e => of_hidT e, Nat.le_of_eq (hidT_size _ _), trivial, fun b hb => absurd (show b ∈ ([] : List Addr) from hb) (by simp), hok, .of_eq hg⟩
    refine codeAny_mono ((F _ hKb (nsK hns)).run callerA [] s₁ H ⟨[.ref a], []⟩ [.ref a] [.ref a] _ _ hr e0 (hbind s₁ (.ref a)) (.cons rfl .nil) (hsp H hO hS)) fun r s' h => ?_
    cases r with
    | error e => exact (hCX H e s' h).elim
    | ok fl =>
      cases fl with
      | next => exact False.elim h
      | brk => exact False.elim h
      | cont => exact False.elim h
      | ret u =>
        obtain ⟨v, H', os, bare, un, hok', r', q⟩ := h
        have q' : v = .bl true := q
        subst q'
        obtain rfl : u = Value.bool true := r'
        refine ⟨rfl, OldK.of_keep fun b o e => ?_, os, bare⟩
        cases q : H b with
        | none => exact un.keep b o e q (by intro z; exact absurd (show b ∈ ([] : List Addr) from z) (by simp)) (by simp)
        | some u =>
          rcases hO b with z | ⟨ob, xs, z⟩
          · rw [q] at z; cases z
          · have z2 := un.frzs b ob _ z
            obtain ⟨e1, _⟩ := hok b _ z
            obtain ⟨e2, _⟩ := hok' b _ z2
            rw [e] at e1; cases e1
            exact e2
  cases hk : K.lookup a with
  | some o =>
    -- the script is one of the module's own objects
    have e := KX a o hk
    rw [ha] at e
    cases e
    refine core (fun _ => none) (fun _ => .inl rfl) (.inr ⟨_, vs.toArray, _, hk, rfl, rfl, rfl, by rw [List.size_toArray, lenV]; exact hl, by simpa using rv⟩) (fun b u z => by have z' : (none : Option HO) = some u := z; cases z') (fun b z => absurd rfl z) fun z => absurd rfl z
  | none =>
    refine core (fun b => if b = a then some (.frz { cls := .type "list", data := .seq vs.toArray } (.lst (ns.map V.int))) else none) (fun b => ?_) (.inl (.inr ⟨{ cls := .type "list", data := .seq vs.toArray }, if_pos rfl⟩)) (fun b u z => ?_) (fun b z => ?_) fun _ => hk
    · by_cases hb : b = a
      · exact .inr ⟨_, _, if_pos hb⟩
      · exact .inl (if_neg hb)
    · by_cases hb : b = a
      · have z' := (if_pos hb).symm.trans z
        cases z'
        subst hb
        exact ⟨ha, by rw [List.length_map]; exact hl, vs, _, rv, ha⟩
      · have z' := (if_neg hb).symm.trans z
        cases z'
    · by_cases hb : b = a
      · exact hb
      · exact absurd (if_neg hb) z
end L2

namespace L2
open PySem PySem.Spec PyProof.Rows

abbrev KOf {K : PySem.W.Frag} {h : Heap} (_ : K.In h) : PySem.W.Frag := K

/-- the goal that k_head leaves (case hc), from the law's promise. F gives the function object fd (K's own) once, then the promise over every base -/
theorem walk_of {l : PySem.W.OpenLaw} {n k : Nat} {q : Program} {loose : List Str} {XP : (Str → Option Value) → Heap → Prop} {YP : World → Heap → Prop} {d : DefRec} {K : Params → PySem.W.Frag} {CX : World → CXT} {sp : World → Sp} {x : Str}
    (hn : l.most = some n) (hn2 : n ≤ sizeLine) (hdf : d.params.defaults = []) (hr : Room k callerA)
    (hY : ∀ (w : World) (h : Heap), YP w h → (K w.params).In h)
    (F : ∀ (w : World) (mg : Str → Option Value) (fa : Addr) (h : Heap), (K w.params).In h → h.Ns mainGlobals mg → mg d.name = some (.ref fa) →
      ∃ fd : FuncData, (∀ (s : Shared) (u : Value), BindsTo s fd ⟨[u], []⟩ [(x, u)]) ∧
        ∀ base : Heap, (K w.params).In base → base.Ns mainGlobals mg → FnOk l.prog w (K w.params) mg base (CX w) k fa fd [x] (sp w))
    (hsp : ∀ (w : World) (H : Hp) (a : Addr) (ns : List Int), ns.length ≤ n → Only H → SqL (K w.params) H a (ns.map V.int) → sp w [.ref a] H (fun v _ => v = .bl true) fun _ _ _ => False)
    (hCX : ∀ (w : World) (H : Hp) (s : Shared) (e : Value) (s' : Shared), CX w [] H s (fun _ _ _ => False) e s' → False) :
    PySem.W.WalkO q loose XP YP l.row.toRowW d [] (fun f vs => PySem.call f vs) := by
  refine Att.attach_call hn hdf fun w s₀ s₁ mg mb fa o pm cd doc a vs ns G Y ho hd hcd hmg hobj hints hlen hg => ?_
  have KX := hY w _ Y
  obtain ⟨fd, hb, hF⟩ := F w mg fa _ KX G.T.g hmg
  exact law_call KX G.T.g G.T.b G.T.builtins G.T.nolimit hg hobj hints (Nat.le_trans hlen hn2) hr hF hb (fun H hO hS => hsp w H a ns hlen hO hS) fun H e s' => hCX w H s₁ e s'
end L2

/- THE LAST THEOREM (shape; LID, My.* are yours):
   My.Adr: a structure of the addresses that your layer names (classes, functions); My.Txt K t: a structure (Prop) of the equations over K;
   My.txt_mk : {K} {implicit addresses ..} (e1 : nsIn K mainGlobals "law" = some (some (.ref f))) (e2 : K.lookup f = some ⟨oc, od, .func (fnOf "law" "law" params body scope dV kV doc pm an cdv ct), sl⟩) (e3 : codeIn K cdv "law" = true) .. : ∃ t, My.Txt K t

set_option maxRecDepth 100000 in
set_option maxHeartbeats 0 in
theorem PySem.Challenge.cw_LID_holds : PySem.Challenge.rw_LID.Holds := by
  w_on; o_law; k_head; (case hw => w_witness2)
  k_fill
  refine L2.walk_of (l := PySem.Challenge.rw_LID) (n := 63) (k := 40) (x := "script") (CX := fun w => ..) (sp := fun _ => My.sp_law) rfl (by decide) rfl ⟨rfl, by decide, by decide⟩ (fun w h Y => PySem.W.kIn_of Y) ?F ?S ?C
  case F =>
    intro w mg fa h KX G hmg
    have T : ∃ t, My.Txt (L2.KOf KX) t := by
      dsimp only [L2.KOf]                          -- K must stand as «<heap const> w.params» for k_is
      refine' My.txt_mk ?e1 ?e2 ?e3 ..
      (case e1 => PySem.W.k_is)                    -- in the order: a name -> its address -> its object -> its parts
      (case e2 => PySem.W.k_is)
      ..
    obtain ⟨t, T⟩ := T
    have e0 := hmg.symm.trans (PySem.W.mg_of KX G T.law)
    cases e0                                       -- fa is the law's own address
    exact ⟨_, fun s u => .of_eq rfl, fun base kb nb => My.law_fn T kb nb⟩     -- if «.of_eq rfl» comes too early: refine' ⟨_, ?b, fun base kb nb => My.law_fn T kb nb⟩; exact fun s u => .of_eq rfl
  case S => exact fun w H a ns hl hO hS => ..
  case C => exact ..
(the tactic k_is has no namespace: write k_is) -/

/-! SHORT WORDS over the layer: a def of the text, its body, what a loop and a test want. -/
namespace L2
open PySem PySem.Spec PyProof.Rows

/-! ### the text by places -/
/-- the j-th statement of a class's body -/
def inClass (s : Stmt) (j : Nat) : Stmt := match s with
  | .ClassDef _ _ _ body _ _ _ _ _ _ _ => body.getD j (.Pass ⟨0, 0, 0, 0⟩)
  | _ => .Pass ⟨0, 0, 0, 0⟩
def defArgs (s : Stmt) : Arguments := match s with
  | .FunctionDef _ a _ _ _ _ _ _ _ _ => a
  | _ => { posonlyargs := [], args := [], vararg := none, kwonlyargs := [], kw_defaults := [], kwarg := none, defaults := [] }
def defBody (s : Stmt) : List Stmt := match s with
  | .FunctionDef _ _ b _ _ _ _ _ _ _ => b
  | _ => []
def defScope (s : Stmt) : Scope := match s with
  | .FunctionDef _ _ _ _ _ _ sc _ _ _ => sc
  | _ => { kind := .function, names := [], isGenerator := false, isCoroutine := false }

/-! ### no exception leaves a def -/
abbrev CX0 : CXT := fun _ _ _ _ _ _ => False
abbrev E0 : XK := fun _ _ _ => False
theorem pass0 {X : Cx} : Passes CX0 X E0 := fun _ _ _ _ _ _ _ h => h.elim

/-! ### a def (or method) of the text as it stands behind the top -/
structure Fun (K : PySem.W.Frag) (x qual : Str) (st : Stmt) (f : Addr) (fd : FuncData) : Prop where
  ex : ∃ (oc : Value) (od : Option Addr) (kV doc pm : Value) (an : Option Addr) (cdv ct : Value) (osl : Array (Option Value)),
    fd = PySem.W.fnOf x qual (defArgs st) (defBody st) (defScope st) .none kV doc pm an cdv ct ∧ K.lookup f = some ⟨oc, od, .func fd, osl⟩ ∧ PySem.W.codeIn K cdv qual = true
  kp : PySem.W.keepIn K (.ref f) = true
section
variable {P : Program} {w : World} {K : PySem.W.Frag} {mg : Str → Option Value} {base : Heap}
/-- THE RULE for a def: its body as a term of rules, and the reading of that term -/
theorem Fun.ok {x qual : Str} {st : Stmt} {f : Addr} {fd : FuncData} {N ps : List Str} {k : Nat} {sp : Sp} (F : Fun K x qual st f fd) (S : FnScope N ps (defScope st)) (len : ∀ vs H Q E, sp vs H Q E → vs.length = ps.length)
    (hbody : ∀ (cdv : Value) (A : Around) (outer : List Env) (s : Shared) (H : Hp) (vs : List V) (Q : VK) (E : XK), Room k (A.deeper (envOfC qual (defScope st) s.heap.objs.size f cdv)) → sp vs H Q E →
      ∃ t, PSs (cxOf CX0 P w K mg base N qual (defScope st) f cdv A outer s H E).nox (defBody st) t ∧ t { nx := fun _ H' => Q .non H', rt := Q } (start N vs) H) : FnOk P w K mg base CX0 (k + 1) f fd ps sp := by
  obtain ⟨oc, od, kV, doc, pm, an, cdv, ct, osl, rfl, lk, hcd⟩ := F.ex
  refine fn_of lk hcd S len fun A outer s H vs Q E hr hsp => ?_
  obtain ⟨t, h, q⟩ := hbody cdv A outer s H vs Q E hr hsp
  exact ⟨t, h.nox, q⟩
/-- how its arguments bind (no defaults): h is «fun _ _ _ _ _ _ us hl => match us, hl with | [_, _], _ => rfl», one _ a parameter -/
theorem Fun.binds {x qual : Str} {st : Stmt} {f : Addr} {fd : FuncData} {ps : List Str} (F : Fun K x qual st f fd)
    (h : ∀ (kV doc pm : Value) (an : Option Addr) (cdv ct : Value) (us : List Value), us.length = ps.length → bindArgs (PySem.W.fnOf x qual (defArgs st) (defBody st) (defScope st) .none kV doc pm an cdv ct) ⟨us, []⟩ = pure (ps.zip us)) : Binds K fd ps [] := by
  obtain ⟨oc, od, kV, doc, pm, an, cdv, ct, osl, rfl, lk, hcd⟩ := F.ex
  exact .all (h kV doc pm an cdv ct)
theorem fun_mk {x qual : Str} {st : Stmt} {f : Addr} {oc : Value} {od an : Option Addr} {osl : Array (Option Value)} {kV doc pm cdv ct : Value} (l : K.lookup f = some ⟨oc, od, .func (PySem.W.fnOf x qual (defArgs st) (defBody st) (defScope st) .none kV doc pm an cdv ct), osl⟩)
    (c : PySem.W.codeIn K cdv qual = true) (k : PySem.W.keepIn K (.ref f) = true) : Fun K x qual st f (PySem.W.fnOf x qual (defArgs st) (defBody st) (defScope st) .none kV doc pm an cdv ct) := ⟨⟨oc, od, kV, doc, pm, an, cdv, ct, osl, rfl, l, c⟩, k⟩
end
theorem small1000 {n : Nat} (h : n ≤ 1000) : n < sizeLine := Nat.lt_of_le_of_lt h (by decide)

/-! ### expressions in short: the name that stands in the i-th slot -/
section
variable {X : Cx}
theorem pv (i : Nat) {x : Str} {pos : Pos} (hN : X.N[i]? = some x := by rfl) (hv : Vis X.env.scope x := by first | exact Or.inl rfl | exact Or.inr (Or.inl rfl) | exact Or.inr (Or.inr rfl)) (hd : (x == ("__debug__" : Str)) = false := by decide)
    (hcd : (x == ("__classdict__" : Str)) = false := by decide) : PE X (.Name x pos) (tVar i) := pe_var hN hv hd hcd
end

/-! ### tests -/
theorem iteF {A B : Prop} (h : B) : if false = true then A else B := by
  rw [if_neg Bool.false_ne_true]
  exact h
theorem iteT {A B : Prop} (h : A) : if true = true then A else B := by
  rw [if_pos rfl]
  exact h
theorem ite2 {c A B : Prop} [Decidable c] (h1 : c → A) (h2 : ¬ c → B) : if c then A else B := by
  by_cases h : c
  · rw [if_pos h]
    exact h1 h
  · rw [if_neg h]
    exact h2 h
/-! ### heaps -/
/-- all that was tracked is as it was -/
def Same (H H' : Hp) : Prop := ∀ b o, H b = some o → H' b = some o
theorem Same.refl (H : Hp) : Same H H := fun _ _ h => h
theorem Same.trans {H H1 H2 : Hp} (a : Same H H1) (b : Same H1 H2) : Same H H2 := fun c o h => b c o (a c o h)
theorem Same.free {H H' : Hp} (e : Same H H') {l : Addr} (h : H' l = Option.none) : H l = Option.none := by
  cases q : H l with
  | none => rfl
  | some o =>
    rw [e l o q] at h
    cases h
theorem Same.seq {K : PySem.W.Frag} {H H' : Hp} {a : Addr} {xs : List V} (e : Same H H') (h : SqL K H a xs) : SqL K H' a xs := by
  rcases h with (h | ⟨o, h⟩) | h
  · exact .inl (.inl (e _ _ h))
  · exact .inl (.inr ⟨o, e _ _ h⟩)
  · exact .inr h

end L2

/-! Own rules beside the hand layer: // and * of great numbers, isinstance, a cut behind a statement. -/
namespace L2
open PySem PySem.Spec PyProof.Rows
section
variable {X : Cx}
theorem op_fdivG : OpR X (binaryOp .FloorDiv) (rI (fun _ j => j ≠ 0 ∧ j.natAbs.log2 < 9000) fun i j => .int (i.fdiv j)) := opI fun _ _ _ _ _ _ _ hc q => floordiv_int hc.1 q (.inl (PyProof.noPylong_of_log2 hc.2))
theorem op_modG : OpR X (binaryOp .Mod) (rI (fun _ j => j ≠ 0) fun i j => .int (i.fmod j)) := op_modN
theorem op_mulG : OpR X (binaryOp .Mult) (rI IntMulOk fun i j => .int (i * j)) := opI fun _ _ _ _ _ _ _ hc q => mul_int q hc
theorem mulR {i j : Int} (h1 : -(2 ^ 64) < j) (h2 : j < 2 ^ 64) : IntMulOk i j := .of_right (intBits_le_64 h1 h2)
theorem log_lt {j : Int} (m : Nat) (h0 : j ≠ 0) (h : j.natAbs < 2 ^ m) (hm : m ≤ 9000 := by decide) : j.natAbs.log2 < 9000 :=
  Nat.lt_of_lt_of_le ((Nat.log2_lt (by omega)).mpr h) hm

theorem boot_int : bootBuiltins "int" = some (.type "int") := by decide +kernel
theorem boot_bool : bootBuiltins "bool" = some (.type "bool") := by decide +kernel
theorem boot_list : bootBuiltins "list" = some (.type "list") := by decide +kernel
theorem boot_ValueError : bootBuiltins "ValueError" = some (.type "ValueError") := by decide +kernel
theorem kit_int_bool (K : PySem.W.Frag) : PySem.W.kitOne K (.type "int") (.type "bool") = some false := by first | rfl | kernel_rfl
/-- an exception that was caught, by its class -/
def ExcIs (a : Addr) (c : Value) (h : Heap) : Prop := ∃ oe vs, h.get? a = some oe ∧ oe.cls = c ∧ oe.data = .fields vs
def excO (a : Addr) (c : Value) : HO := .ext (ExcIs a c)
/-- what isinstance asks of an exception's class -/
structure ExcCls (K : PySem.W.Frag) (c : Value) : Prop where
  kit : ∀ a : Addr, PySem.W.KitX K (.ref a) c (ExcIs a c)
/-- the type of a value, exceptions too -/
inductive TyX (K : PySem.W.Frag) (H : Hp) : V → Value → Prop where
  | of {x : V} {t : Value} (h : TyOf K H x t) : TyX K H x t
  | exc {a : Addr} {c : Value} (h : H a = some (excO a c)) (k : ExcCls K c) : TyX K H (.ref a) c
def clsV : V → Option Value
  | .ty n => some (.type n)
  | .ref c => some (.ref c)
  | _ => none
/-- isinstance(x, c), c a class -/
def rIsi (K : PySem.W.Frag) : List V → Hp → VK → Prop := fun xs H Q => ∃ x c t cv b, xs = [x, c] ∧ clsV c = some cv ∧ TyX K H x t ∧ PySem.W.kitOne K t cv = some b ∧ Q (.bl b) H
/-- raise C(..): the exception's class, the heap as it is -/
def tRaise (C : Value) (E : XK) : TS := fun _ _ H => E C none H
/-- a call within a try: what is wanted of an exception hangs on the names' values -/
def tCallS (sp : Sp) (dvs : List V) (E : St → XK) (t : TA) : TE := fun σ H Q => t σ H fun vs H1 => sp (vs ++ dvs) H1 Q (E σ)
/-- try: .. except D as x: .. -/
def tTry (K : PySem.W.Frag) (tb : (St → XK) → TS) (D : Value) (i : Nat) (th : TS) : TS := fun d σ H =>
  tb (fun σ' c _ H' => ExcCls K c ∧ PySem.W.subIn K c D = some true ∧ ∀ a, H' a = none → th { d with nx := fun σ2 H2 => d.nx (σ2.set i none) H2, bk := fun σ2 H2 => d.bk (σ2.set i none) H2, ct := fun σ2 H2 => d.ct (σ2.set i none) H2 } (σ'.set i (some (.ref a))) (upd H' a (excO a c))) d σ H
theorem isi_int_int {K : PySem.W.Frag} {H : Hp} {Q : VK} {i : Int} (q : Q (.bl true) H) : rIsi K [.int i, .ty "int"] H Q := ⟨_, _, _, _, true, rfl, rfl, .of (.int i), rfl, q⟩
theorem isi_int_bool {K : PySem.W.Frag} {H : Hp} {Q : VK} {i : Int} (q : Q (.bl false) H) : rIsi K [.int i, .ty "bool"] H Q := ⟨_, _, _, _, false, rfl, rfl, .of (.int i), kit_int_bool K, q⟩
theorem isi_exc {K : PySem.W.Frag} {H : Hp} {Q : VK} {r : Addr} {d : V} {cv dv : Value} {b : Bool} (hc : clsV d = some dv) (h : H r = some (excO r cv)) (k : ExcCls K cv) (e : PySem.W.kitOne K cv dv = some b) (q : Q (.bl b) H) : rIsi K [.ref r, d] H Q := ⟨_, _, _, _, b, rfl, hc, .exc h k, e, q⟩

theorem clsV_rel {c : V} {u cv : Value} (r : RelV c u) (h : clsV c = some cv) : u = cv := by
  cases c with
  | ty n => cases r; exact Option.some.inj h
  | ref a => cases r; exact Option.some.inj h
  | _ => cases h
theorem call_isinst : CallR X (.builtin "isinstance") (rIsi X.K) := by
  intro pins s σ H xs us Q I r h
  obtain ⟨x, c, t, cv, b, rfl, hc, ty, e, q⟩ := h
  obtain ⟨u, w', rfl, rx, rw'⟩ := vals2 r
  obtain rfl := clsV_rel rw' hc
  cases ty with
  | of ty => exact isinst_ok I rx ty e fun tk => ⟨.bl b, H, I.tok tk, rfl, q⟩
  | @exc a c h k =>
    cases (show u = Value.ref a from rx)
    obtain ⟨p, _, _⟩ := (show ObjOk X.prog X.w H s.heap a (excO a t) from I.hok a _ h)
    exact PySem.W.kia_one (k.kit a) I.kIn p e (fun z => nomatch z) fun tk => ⟨.bl b, H, I.tok tk, rfl, q⟩
/-! ### tuples of ints compared -/
def rEqT (K : PySem.W.Frag) : R2 := fun x y H Q => ∃ (a b : Addr) (ns ms : List Int), x = .ref a ∧ y = .ref b ∧ SqT K H a (ns.map V.int) ∧ SqT K H b (ms.map V.int) ∧ Q (.bl (decide (ns = ms))) H
def rNeT (K : PySem.W.Frag) : R2 := fun x y H Q => ∃ (a b : Addr) (ns ms : List Int), x = .ref a ∧ y = .ref b ∧ SqT K H a (ns.map V.int) ∧ SqT K H b (ms.map V.int) ∧ Q (.bl (!decide (ns = ms))) H
/-! ### xs.count(x), xs.index(x) of flat things -/
def rCount (K : PySem.W.Frag) : V → List V → Hp → VK → Prop := fun x vs H Q => ∃ l xs y, x = .ref l ∧ vs = [y] ∧ SqL K H l xs ∧ flatV y = true ∧ xs.all flatV = true ∧ Q (.int ((xs.countP fun z => eqV z y : Nat) : Int)) H
def rIndex (K : PySem.W.Frag) : V → List V → Hp → VK → Prop := fun x vs H Q => ∃ l xs y j, x = .ref l ∧ vs = [y] ∧ SqL K H l xs ∧ flatV y = true ∧ xs.all flatV = true ∧ xs.findIdx? (fun z => eqV z y) = some j ∧ j < 1000000 ∧ Q (.int (j : Nat)) H
/-- a truth -/
def tTru (K : PySem.W.Frag) (ta : TE) : TT := fun σ H Q => ta σ H fun x H' => ∃ k, TruV K x H' k ∧ Q k H'
/-- a cut behind a statement: its end is said once -/
def tCut (t : TS) : TS := fun D σ H => ∃ R : St → Hp → Prop, t { D with nx := R } σ H ∧ ∀ σ' H', R σ' H' → D.nx σ' H'
theorem ps_cut {st : Stmt} {t : TS} (h : PS X st t) : PS X st (tCut t) := by
  intro pins s σ H D I hw
  obtain ⟨R, hw, hR⟩ := hw
  refine thn (h pins s σ H _ I hw) fun f s' q => ?_
  cases f with
  | next => obtain ⟨σ', H', I', q⟩ := q; exact ⟨σ', H', I', hR _ _ q⟩
  | brk => exact q
  | cont => exact q
  | ret u => exact q
end
theorem same_new {H : Hp} {p : Addr} (h : H p = none) (o : HO) : Same H (upd H p o) := fun b u q => by rw [upd_ne (ne_of_none q h)]; exact q
theorem Same.add {H0 H : Hp} {p : Addr} {o : HO} (s : Same H0 H) (h : H p = none) : Same H0 (upd H p o) := s.trans (same_new h o)
theorem Same.put {H0 H : Hp} {p : Addr} {o : HO} (s : Same H0 H) (h : H0 p = none) : Same H0 (upd H p o) := fun b u q => by rw [upd_ne (ne_of_none q h)]; exact s _ _ q
theorem truV_int {K : PySem.W.Frag} {i : Int} {H : Hp} {k : Bool} : TruV K (.int i) H k = (k = (i != 0)) := rfl
theorem truV_bl {K : PySem.W.Frag} {i : Bool} {H : Hp} {k : Bool} : TruV K (.bl i) H k = (k = i) := rfl
theorem scal_int (a b : Int) : scal (.int a) (.int b) = true := rfl
theorem scal_bl (a b : Bool) : scal (.bl a) (.bl b) = true := rfl
theorem Same.tup {K : PySem.W.Frag} {H H' : Hp} {a : Addr} {xs : List V} (e : Same H H') (h : SqT K H a xs) : SqT K H' a xs := by
  rcases h with (h | ⟨o, h⟩) | h
  · exact .inl (.inl (e _ _ h))
  · exact .inl (.inr ⟨o, e _ _ h⟩)
  · exact .inr h
theorem at_int {ns : List Int} {k : Int} (h0 : 0 ≤ k) (h : k < (ns.length : Int)) : ∃ v : Int, atI (ns.map V.int) k = some (.int v) ∧ ns[k.toNat]? = some v := by
  have hk : k.toNat < ns.length := by omega
  have ek : k = ((k.toNat : Nat) : Int) := by omega
  have q : atI (ns.map V.int) ((k.toNat : Nat) : Int) = some (.int ns[k.toNat]) := atI_nat (by rw [List.getElem?_map, List.getElem?_eq_getElem hk] <;> rfl)
  rw [← ek] at q
  exact ⟨ns[k.toNat], q, List.getElem?_eq_getElem hk⟩
/-- a loop over what J yields, folded -/
def ForIt (J : It) (g : TG) (tb : TS) : TS := fun D σ H => ∃ W : Nat → Nat → St → Hp → Prop, (∃ m, W 0 m σ H) ∧ ∀ i m σ H, W i m σ H →
  (J.stop i H ∧ D.nx σ H) ∨ (J.go i H ∧ ∃ N : St → Hp → Prop, (∀ σ' H', N σ' H' → ∃ m', m' < m ∧ W (i + 1) m' σ' H') ∧ ∀ x H', J.yld i H x H' → g x σ H' fun σ2 H2 => tb { D with nx := N, ct := N, bk := D.nx } σ2 H2)
theorem tFor_eq {wi : TI} {g : TG} {tb : TS} {D : Ends} {σ : St} {H : Hp} : tFor wi g tb D σ H = wi σ H fun J H1 => ForIt J g tb D σ H1 := rfl
theorem for_rangeF {lo : Int} {n : Nat} {g : TG} {tb : TS} {D : Ends} {σ : St} {H : Hp} (Pv : Nat → St → Hp → Prop) (h0 : Pv 0 σ H)
    (hs : ∀ i σ H, i < n → Pv i σ H → g (.int (lo + i)) σ H fun σ2 H2 => tb { D with nx := Pv (i + 1), ct := Pv (i + 1), bk := D.nx } σ2 H2) (hd : ∀ σ H, Pv n σ H → D.nx σ H) : ForIt (Itr lo n) g tb D σ H := for_range Pv h0 hs hd
theorem for_listF {K : PySem.W.Frag} {a : Addr} {xs : List V} {g : TG} {tb : TS} {D : Ends} {σ : St} {H : Hp} (Pv : Nat → St → Hp → Prop) (h0 : Pv 0 σ H) (hl : ∀ i σ H, i ≤ xs.length → Pv i σ H → SqL K H a xs)
    (hs : ∀ i x σ H, xs[i]? = some x → Pv i σ H → g x σ H fun σ2 H2 => tb { D with nx := Pv (i + 1), ct := Pv (i + 1), bk := D.nx } σ2 H2) (hd : ∀ σ H, Pv xs.length σ H → D.nx σ H) : ForIt (Itl K a) g tb D σ H := for_list Pv h0 hl hs hd
end L2

/-! Own rules beside the hand layer: an own exception raised, passed on by a def, caught. -/
namespace L2
open PySem PySem.Spec PyProof.Rows
section
variable {P : Program} {w : World}
theorem ObjOk.there {H : Hp} {h : Heap} {a : Addr} {o : HO} (x : ObjOk P w H h a o) : ∃ ob, h.get? a = some ob := by
  cases o with
  | lst xs => obtain ⟨_, _, _, _, e⟩ := x; exact ⟨_, e⟩
  | tup xs => obtain ⟨_, _, _, ob, e, _⟩ := x; exact ⟨ob, e⟩
  | dK kvs => obtain ⟨_, _, _, _, ob, _, _, e, _⟩ := x; exact ⟨ob, e⟩
  | dT kvs => obtain ⟨_, _, _, _, ob, _, _, e, _⟩ := x; exact ⟨ob, e⟩
  | set S n => obtain ⟨ob, _, _, _, e, _⟩ := x; exact ⟨ob, e⟩
  | ins C dx fs => obtain ⟨_, _, _, e, _⟩ := x; exact ⟨_, e⟩
  | own y => exact x
  | xd fs => obtain ⟨_, ⟨ob, _, _, e, _⟩, _⟩ := x; exact ⟨ob, e⟩
  | rng lo hi => obtain ⟨_, _, _, e⟩ := x; exact ⟨_, e⟩
  | frz ob u => obtain ⟨e, _⟩ := x; exact ⟨ob, e⟩
  | tbl ps => exact ⟨_, (show h.get? a = some _ from x)⟩
  | met f y => exact ⟨_, (show h.get? a = some _ from x)⟩
  | ext φ => obtain ⟨_, ⟨ob, e⟩, _⟩ := x; exact ⟨ob, e⟩
/-- how an exception lies behind a call: outside the frames and its own records all is as the heap B has it -/
structure ExcAt (P : Program) (w : World) (outer : List Env) (H : Hp) (s : Shared) (E : XK) (ea : Addr) (s' : Shared) (B : Heap) (cls a0 : Value) (H' : Hp) : Prop where
  os : s'.os = s.os
  bare : AllBare s'.gens
  un : Un (frs outer) [] H H' s.heap s'.heap
  hokB : HOk P w H' B
  fly : Heap.FlyingW B outer ea cls a0 s'.heap
  cov : ∀ b o, s.heap.get? b = some o → H b = none → b ∉ frs outer → B.get? b = some o
  covT : ∀ b o, s.heap.get? b = some o → b ∉ frs outer → ∃ o', B.get? b = some o'
  new : s.heap.get? ea = none
  free : H' ea = none
  want : E cls none H'
def CXE (P : Program) (w : World) : CXT := fun outer H s E e s' => ∃ (ea : Addr) (B : Heap) (cls a0 : Value) (H' : Hp), e = .ref ea ∧ ExcAt P w outer H s E ea s' B cls a0 H'

/-- what is known of the heap further on in the flight -/
theorem ExcAt.later {outer : List Env} {H H' : Hp} {s s' : Shared} {E : XK} {ea : Addr} {B h : Heap} {cls a0 : Value} (x : ExcAt P w outer H s E ea s' B cls a0 H') (st : B.StaysIn h) (sm : s'.heap.UpToSlots h)
    (ff : s'.heap.FunFrames B outer) : Un (frs outer) [] H H' s.heap h ∧ HOk P w H' h := by
  have slot : ∀ b o, s'.heap.get? b = some o → b ∈ frs outer → ∃ sl, h.get? b = some { o with slots := sl } := fun b o e hb => by
    obtain ⟨_, o', e', nf⟩ := ff.mem hb
    rw [e] at e'
    cases e'
    exact sm b o e nf
  refine ⟨⟨fun b o e n hb _ => st b o (x.cov b o e n hb), fun b o e n hb hx => ?_, x.un.free, fun b o e hx => ?_, x.un.tups, x.un.frzs, x.un.tbls⟩, x.hokB.kept st⟩
  · obtain ⟨sl, e1⟩ := x.un.slot b o e n hb hx
    obtain ⟨sl', e2⟩ := slot b _ e1 hb
    exact ⟨sl', e2⟩
  · by_cases hb : b ∈ frs outer
    · obtain ⟨o1, e1⟩ := x.un.there b o e hx
      obtain ⟨sl, e2⟩ := slot b o1 e1 hb
      exact ⟨_, e2⟩
    · obtain ⟨o', e'⟩ := x.covT b o e hb
      exact ⟨o', st b o' e'⟩
end

/-! ### a def's body: an exception of a callee passes, one is raised -/
section
variable {P : Program} {w : World} {K : PySem.W.Frag} {mg : Str → Option Value} {base : Heap} {N : List Str} {qual : Str} {scope : Scope} {f : Addr} {cd : Value} {A : Around} {outer : List Env} {s₀ : Shared} {H₀ : Hp} {E : XK}
end
/-- an exception that is raised here reaches what this body wants of exceptions -/
def Throws (X : Cx) (C : Addr) (E : XK) : Prop := ∀ (pins : List (Addr × Obj)) (σ : St) (H : Hp) (s : Shared) (ea : Addr) (h' : Heap) (args : List Value), Inv X pins σ H s → Heap.MadeExcOf s.heap h' ea (.ref C) args → E (.ref C) none H → X.xe (.ref ea) { s with heap := h' }
section
variable {P : Program} {w : World} {K : PySem.W.Frag} {mg : Str → Option Value} {base : Heap} {N : List Str} {qual : Str} {scope : Scope} {f : Addr} {cd : Value} {A : Around} {outer : List Env} {s₀ : Shared} {H₀ : Hp} {E : XK}
theorem throwsX {C : Addr} : Throws (cxOf (CXE P w) P w K mg base N qual scope f cd A outer s₀ H₀ E) C E := by
  intro pins σ H s ea h' args I hx q
  have hfr := I.ok.frames
  have hst : s.heap.FunFrames base (envOfC qual scope s₀.heap.objs.size f cd :: outer) := I.stack
  have fresh : ∀ b ∈ frs (envOfC qual scope s₀.heap.objs.size f cd :: outer), H b = none := I.stkFree
  have inB : ∀ b o, s.heap.get? b = some o → b ∉ frs (envOfC qual scope s₀.heap.objs.size f cd :: outer) → (PySem.W.hideAll s.heap (frs (envOfC qual scope s₀.heap.objs.size f cd :: outer))).get? b = some o := fun b o e n => PySem.W.hideAll_get _ e n
  have st0 : (PySem.W.hideAll s.heap (frs (envOfC qual scope s₀.heap.objs.size f cd :: outer))).StaysIn s.heap := fun b o q => PySem.W.of_hideAll _ q
  have hl : s.heap.FunFrames (PySem.W.hideAll s.heap (frs (envOfC qual scope s₀.heap.objs.size f cd :: outer))) (envOfC qual scope s₀.heap.objs.size f cd :: outer) :=
    PySem.W.funFrames_hide hst fun env he a ha => List.mem_filterMap.mpr ⟨env, he, ha⟩
  generalize PySem.W.hideAll s.heap (frs (envOfC qual scope s₀.heap.objs.size f cd :: outer)) = B at inB st0 hl
  refine wpAny_leaves_madeW (base := B) (h := s.heap) (L := s₀.heap.objs.size) hfr rfl st0 hl hx fun h2 t x1 x2 x3 x4 => ?_
  have neL : ∀ b o, s₀.heap.get? b = some o → b ≠ s₀.heap.objs.size := fun b o e => Nat.ne_of_lt (Heap.lt_size e)
  have notin : ∀ b o, s₀.heap.get? b = some o → b ∉ frs outer → b ∉ frs (envOfC qual scope s₀.heap.objs.size f cd :: outer) := fun b o e hb z => by
    rcases List.mem_cons.mp (I.stkSub b z) with q | q
    · exact neL b o e q
    · exact hb q
  have slot : ∀ b o, s.heap.get? b = some o → b ∈ frs outer → ∃ sl, h2.get? b = some { o with slots := sl } := fun b o e hb => by
    obtain ⟨_, o', e', nf⟩ := hl.2.2.mem hb
    rw [e] at e'
    cases e'
    exact x4 b o (hx.keeps b o e) nf
  have hokB : HOk P w H B := fun b u e => (I.hok b u e).stay (fun c v hc q => inB c v q fun z => by
    rcases hc with r | r
    · rw [r] at z
      rw [fresh b z] at e
      cases e
    · rw [fresh c z] at r
      cases r) (fun _ q => q) fun _ _ q => q
  have un : Un (frs outer) [] H₀ H s₀.heap h2 := by
    refine ⟨fun b o e n hb hx => ?_, fun b o e n hb hx => ?_, I.base.free, fun b o e hx => ?_, I.base.tups, I.base.frzs, I.base.tbls⟩
    · exact x1.1 b o (inB b o (I.base.keep b o e n hb hx) (notin b o e hb))
    · obtain ⟨sl, e1⟩ := I.base.slot b o e n hb hx
      obtain ⟨sl', e2⟩ := slot b _ e1 hb
      exact ⟨sl', e2⟩
    · obtain ⟨o', e1⟩ := I.base.there b o e hx
      by_cases hb : b ∈ frs outer
      · obtain ⟨sl, e2⟩ := slot b o' e1 hb
        exact ⟨_, e2⟩
      · exact ⟨o', x1.1 b o' (inB b o' e1 (notin b o e hb))⟩
  refine ⟨ea, B, .ref C, .ref t, H, rfl, I.os, I.bare, un, hokB, x1, fun b o e n hb => ?_, fun b o e hb => ?_, ?_, ?_, q⟩
  · exact inB b o (I.base.keep b o e n hb (by intro z; cases z)) (notin b o e hb)
  · obtain ⟨o', e1⟩ := I.base.there b o e (by intro z; cases z)
    exact ⟨o', inB b o' e1 (notin b o e hb)⟩
  · cases q : s₀.heap.get? ea with
    | none => rfl
    | some o =>
      obtain ⟨o', e1⟩ := I.base.there ea o q (by intro z; cases z)
      rw [hx.new] at e1
      cases e1
  · cases q : H ea with
    | none => rfl
    | some u =>
      obtain ⟨o', e1⟩ := (I.hok ea u q).there
      rw [hx.new] at e1
      cases e1
end
/-- an own exception class under ValueError, as the top has made it -/
abbrev veMro : List Value := [.type "ValueError", .type "Exception", .type "BaseException", .type "object"]
def OwnExc (h : Heap) (C : Addr) : Prop := ∃ bm N nm q bs hdct sn sub ab col dd k0 k1 k2 k3 k5 mN, h.get? C = some (excClassObj nm q C N bs bm hdct sn sub ab col dd k0 k1 k2 k3 k5 "ValueError.__new__") ∧ h.Ns N mN ∧ mN "__init__" = none ∧ OwnTail h veMro bm
theorem ownExc_of {K : PySem.W.Frag} {h : Heap} {C : Addr} (X : K.In h) (q : PySem.W.excIn K C veMro "ValueError.__new__" = true) : OwnExc h C := by
  unfold PySem.W.excIn at q
  split at q
  · rename_i dd cd sl ho
    split at q
    · rename_i C2 bm k0 k1 k2 k3 n k5 hm hs
      simp only [Bool.and_eq_true, beq_iff_eq, Bool.not_eq_true'] at q
      obtain ⟨⟨⟨⟨⟨r1, r2⟩, r3⟩, r4⟩, r5⟩, r6⟩ := q
      subst r1 r2
      obtain ⟨a1, a2, a3, a4, a5, a6, a7, a8, a9, a10, a11⟩ := cd
      dsimp only at hm r3 r5 r6
      subst hm r3
      have z : sl = #[k0, k1, k2, k3, some (.builtin "ValueError.__new__"), k5] := by
        obtain ⟨l⟩ := sl
        exact congrArg Array.mk hs
      subst z
      exact ⟨bm, _, _, _, _, _, _, _, _, _, _, k0, k1, k2, k3, k5, _, X _ _ ho, .of_isNs (PySem.W.isNs_of_in X r5), PySem.W.nsMap_none_of_in X r5 r6, PySem.W.tail_of_in X r4⟩
    · cases q
  · cases q
/-- raise C("..") -/
theorem ps_raise {X : Cx} {x : Str} {C : Addr} {E : XK} {z : Str} {j : Nat} {np cpos pos pz : Pos} (hm : X.mg x = some (.ref C)) (hq : PySem.W.excIn X.K C veMro "ValueError.__new__" = true) (hg : Gl X x) (hc : X.calm = true) (hT : Throws X C E)
    (hd : (x == ("__debug__" : Str)) = false := by decide) : PS X (.Raise (some (.Call (.Name x np) [.Constant (.str z) j pz] [] cpos)) none pos) (tRaise (.ref C) E) := by
  intro pins s σ H D I h
  have hw : E (.ref C) none H := h
  have O := ownExc_of I.ok.mod.kin hq
  obtain ⟨b1, b2, b3, b4, b5, b6, b7, b8, b9, b10, b11, b12, b13, b14, b15, b16, b17, hC, hN, hni, T⟩ := O
  refine wpAny_Raise_call_subT (C := C) (nm := b3) (q := b4) (N := b2) (bs := b5) (bm := b1) (hdct := b6) (sn := b7) (sub := b8) (ab := b9) (col := b10) (dd := b11) (k0 := b12) (k1 := b13) (k2 := b14) (k3 := b15) (k5 := b16) (mN := b17)
    PySem.F.excBase_ValueError (T.hasType PySem.F.excBase_ValueError.hasBase) (I.ok.hd hc) rfl hni (ld_glob I hg hm ⟨rfl, ?_⟩ hd)
  refine Calls.evalArgs_plain ?_
  refine thn ((pa_cons (X := X) (pe_str (x := z) (j := j) (pos := pz)) pa_nil (by rfl)) cpos pins s σ H (fun vs H1 => vs = [.str z] ∧ H1 = H) I ⟨rfl, rfl⟩) fun us s2 ⟨vs, H1, I1, r, e1, e2⟩ => ?_
  subst e1 e2
  have hl := r.length
  refine ⟨rfl, by rw [← hl]; exact Nat.le_of_lt (small1000 (by show 1 ≤ 1000; decide)), I1.bk _ _ hC, hN.keeps I1.bk, T.keeps I1.bk, fun h' e hmade => ?_⟩
  exact hT pins σ _ s2 e h' us I1 hmade hw
/-- THE RULE for a def that may raise -/
theorem Fun.okX {P : Program} {w : World} {K : PySem.W.Frag} {mg : Str → Option Value} {base : Heap} {x qual : Str} {st : Stmt} {f : Addr} {fd : FuncData} {N ps : List Str} {k : Nat} {sp : Sp} (F : Fun K x qual st f fd) (S : FnScope N ps (defScope st)) (len : ∀ vs H Q E, sp vs H Q E → vs.length = ps.length)
    (hbody : ∀ (cdv : Value) (A : Around) (outer : List Env) (s : Shared) (H : Hp) (vs : List V) (Q : VK) (E : XK), Room k (A.deeper (envOfC qual (defScope st) s.heap.objs.size f cdv)) → sp vs H Q E →
      ∃ t, PSs (cxOf (CXE P w) P w K mg base N qual (defScope st) f cdv A outer s H E) (defBody st) t ∧ t { nx := fun _ H' => Q .non H', rt := Q } (L2.start N vs) H) : FnOk P w K mg base (CXE P w) (k + 1) f fd ps sp := by
  obtain ⟨oc, od, kV, doc, pm, an, cdv, ct, osl, rfl, lk, hcd⟩ := F.ex
  exact fn_of lk hcd S len fun A outer s H vs Q E hr hsp => hbody cdv A outer s H vs Q E hr hsp

/-! ### a call within a try -/
section
variable {X : Cx} {CX : CXT} {k : Nat} {f : Addr} {fd : FuncData} {ps : List Str} {sp : Sp} {dvs : List V} {ds : List Value} {E : St → XK} {x : Str} {p pos : Pos} {e : Expr} {es : List Expr} {t : TA}
def PassesS (CX : CXT) (X : Cx) (E : St → XK) : Prop := ∀ (pins : List (Addr × Obj)) (σ : St) (H : Hp) (s : Shared) (e : Value) (s' : Shared), Inv X pins σ H s → CX X.stack H s (E σ) e s' → X.xe e s'
theorem pe_callS (F : FnOk X.prog X.w X.K X.mg X.base CX k f fd ps sp) (hr : Room k X.A) (hg : Gl X x) (hm : X.mg x = some (.ref f)) (hk : PySem.W.keepIn X.K (.ref f) = true) (hb : Binds X.K fd ps ds) (hd : Vals dvs ds) (hx : PassesS CX X E)
    (ha : PA X (e :: es) t) (hdb : (x == ("__debug__" : Str)) = false := by decide) (he : starEach (e :: es) X.env = (false, eval e X.env) :: starEach es X.env := by rfl) (hpl : (backTo pos (starEach es X.env)).any (·.1) = false := by rfl) :
    PE X (.Call (.Name x p) (e :: es) [] pos) (tCallS sp dvs E t) := by
  intro pins s σ H Q I h
  refine wpAny_Call_Name_kw (ld_glob I hg hm ?_ hdb)
  refine PySem.W.callWith_K (h₀ := X.base) I.ok.mod.kin hk (thn (ha pos pins s σ H _ I h) fun us s1 ⟨vs, H1, I1, r, q⟩ => ⟨I1.kIn, ?_⟩) he hpl
  have r2 : Vals (vs ++ dvs) (us ++ ds) := r.append hd
  have hl : (us ++ ds).length = ps.length := by rw [← r2.length]; exact F.len _ _ _ _ q
  refine wpAny_call (codeAny_mono (F.run X.A X.stack s1 H1 ⟨us, []⟩ (us ++ ds) (vs ++ dvs) Q (E σ) hr I1.env0 (hb s1 us I1.kIn hl) r2 q) fun res s' hq => ?_)
  cases res with
  | error e => exact hx pins σ H1 s1 e s' I1 hq
  | ok fl =>
    cases fl with
    | ret u => exact I1.after hq
    | next => exact False.elim hq
    | brk => exact False.elim hq
    | cont => exact False.elim hq
end

/-! ### try .. except D as x -/
/-- the context of a try's suite: the pins stay, an exception lies as a call has left it -/
def Cx.inTry (X : Cx) (pins : List (Addr × Obj)) (E : St → XK) : Cx := { X with
  pn := X.pn ++ pins
  xe := fun e s' => ∃ pins' σ H s, Inv { X with pn := X.pn ++ pins } pins' σ H s ∧ CXE X.prog X.w X.stack H s (E σ) e s' }
theorem Cx.Ok.pinned {X : Cx} (ok : X.Ok) (pn : List (Addr × Obj)) (xe : Value → Shared → Prop) : Cx.Ok { X with pn := pn, xe := xe } :=
  ⟨ok.mod, ok.kind, ok.glob, ok.blt, ok.above, ok.inj, ok.has, ok.cab, ok.hd, ok.frames, ok.stk, ok.exf, ok.bs, ok.bsz, ok.noex, ok.exfs, ok.funs, ok.frf⟩
theorem Inv.toTry {X : Cx} {pins : List (Addr × Obj)} {σ : St} {H : Hp} {s : Shared} (I : Inv X pins σ H s) (E : St → XK) : Inv (X.inTry pins E) [] σ H s :=
  ⟨I.ok.pinned _ _, I.os, I.bare, I.base, I.loc, I.cell, I.free, I.freeC, fun p hp => I.pin p (by rw [List.append_nil] at hp; exact hp), I.hok, I.len⟩
theorem passS {X : Cx} {pins : List (Addr × Obj)} {E : St → XK} : PassesS (CXE X.prog X.w) (X.inTry pins E) E := fun pins' σ H s e s' I h =>
  ⟨pins', σ, H, s, ⟨I.ok.pinned _ _, I.os, I.bare, I.base, I.loc, I.cell, I.free, I.freeC, I.pin, I.hok, I.len⟩, h⟩
theorem Inv.ofTry {X : Cx} {pins pins' : List (Addr × Obj)} {xe : Value → Shared → Prop} {σ : St} {H : Hp} {s : Shared} (I : Inv { X with pn := X.pn ++ pins, xe := xe } pins' σ H s) (ok : X.Ok) : Inv X pins σ H s :=
  ⟨ok, I.os, I.bare, I.base, I.loc, I.cell, I.free, I.freeC, fun p hp => I.pin p (List.mem_append_left _ hp), I.hok, I.len⟩
theorem SP.ofTry {X : Cx} {pins pins' : List (Addr × Obj)} {E : St → XK} {D : Ends} {f : Flow} {s' : Shared} (ok : X.Ok) (h : SP (X.inTry pins E) pins' D f s') : SP X pins D f s' := by
  cases f with
  | next => obtain ⟨σ', H', I, q⟩ := h; exact ⟨σ', H', I.ofTry ok, q⟩
  | brk => obtain ⟨σ', H', I, q⟩ := h; exact ⟨σ', H', I.ofTry ok, q⟩
  | cont => obtain ⟨σ', H', I, q⟩ := h; exact ⟨σ', H', I.ofTry ok, q⟩
  | ret u => obtain ⟨v, σ', H', I, r, q⟩ := h; exact ⟨v, σ', H', I.ofTry ok, r, q⟩
/-- an object that was not tracked, and that the entry did not know, is tracked -/
theorem Inv.track {X : Cx} {pins : List (Addr × Obj)} {σ : St} {H : Hp} {s : Shared} {a : Addr} {o : HO} (I : Inv X pins σ H s) (hn : H a = none) (h0 : X.s₀.heap.get? a = none) (hL : a ≠ X.env.locals) (hc : ∀ x c, X.env.cells.lookup x = some c → c ≠ a)
    (hp : ∀ p ∈ X.pn ++ pins, p.1 ≠ a) (new : ObjOk X.prog X.w (upd H a o) s.heap a o) : Inv X pins σ (upd H a o) s := by
  refine ⟨I.ok, I.os, I.bare, ⟨I.base.keep, I.base.slot, fun b u q n hx => ?_, I.base.there, fun b xs q => ?_, fun b u xs q => ?_, fun b ps q => ?_⟩, I.loc, I.cell, ?_, fun x c e => ?_, fun p q => ?_, fun b u e => ?_, I.len⟩
  · have nb : b ≠ a := fun z => by rw [z, h0] at q; cases q
    rw [upd_ne nb]
    exact I.base.free b u q n hx
  · have q2 := I.base.tups b xs q
    rw [upd_ne (ne_of_none q2 hn)]
    exact q2
  · have q2 := I.base.frzs b u xs q
    rw [upd_ne (ne_of_none q2 hn)]
    exact q2
  · obtain ⟨m, q2⟩ := I.base.tbls b ps q
    exact ⟨m, by rw [upd_ne (ne_of_none q2 hn)]; exact q2⟩
  · rw [upd_ne hL.symm]
    exact I.free
  · rw [upd_ne (hc x c e)]
    exact I.freeC x c e
  · obtain ⟨e, n, r⟩ := I.pin p q
    exact ⟨e, by rw [upd_ne (hp p q)]; exact n, r⟩
  · by_cases hb : b = a
    · subst hb
      rw [upd_same] at e
      cases e
      exact new
    · rw [upd_ne hb] at e
      exact (I.hok b u e).stay (fun c v _ q => q) (fun c q => by rw [upd_ne (ne_of_none q hn)]; exact q) fun c xs q => by rw [upd_ne (ne_of_none q hn)]; exact q
/-- the handler's name goes -/
theorem gone_ok {X : Cx} {pins : List (Addr × Obj)} {σ : St} {H : Hp} {s : Shared} {M : Model} {A : Around} {E : Value → Shared → Prop} {i : Nat} {n : Str} {pos : Pos} {Q : Unit → Shared → Prop} (I : Inv X pins σ H s) (hN : X.N.Nodup) (hi : X.N[i]? = some n)
    (hk : X.env.scope.names.lookup n = some .local) (h : ∀ s', Inv X pins (σ.set i none) H s' → Q () s') : wpAny M A (do bindName X.env n .none; unbindBehindTheSuite X.env n pos) Q E s := by
  obtain ⟨m, hn, hl⟩ := id I.loc
  have hcls : (X.env.scope.kind == .class || (X.env.scope.kind == .module && X.env.locals != X.env.globals)) = false := by rw [I.ok.kind]; rfl
  have hiσ : i < σ.length := by rw [I.len]; exact (List.getElem?_eq_some_iff.mp hi).1
  obtain ⟨oL, _, _, hoL, _⟩ := id hn
  refine wpAny_nameGoes_keeps hk hn hcls fun h' v hn' hs => ?_
  have below : ∀ b o, X.s₀.heap.get? b = some o → b ≠ X.env.locals := fun b o e => Nat.ne_of_lt (Nat.lt_of_lt_of_le (Heap.lt_size e) I.ok.above)
  refine h _ ⟨I.ok, I.os, I.bare, ⟨fun b o e n hb hx => ?_, fun b o e n hb hx => ?_, I.base.free, fun b o e hx => ?_, I.base.tups, I.base.frzs, I.base.tbls⟩, ⟨_, hn', fun j y v' e1 e2 e3 => ?_⟩, fun y c e => ?_, I.free, I.freeC, fun p hp => ?_, fun b ob e => ?_, by simpa using I.len⟩
  · exact (hs.2 b (below b o e)).trans (I.base.keep b o e n hb hx)
  · obtain ⟨sl, e1⟩ := I.base.slot b o e n hb hx
    exact ⟨sl, (hs.2 b (below b o e)).trans e1⟩
  · obtain ⟨o', e1⟩ := I.base.there b o e hx
    exact ⟨o', (hs.2 b (below b o e)).trans e1⟩
  · have hj : j ≠ i := fun z => by
      rw [z, List.getElem?_set_self hiσ] at e2
      cases e2
    rw [List.getElem?_set_ne (Ne.symm hj)] at e2
    obtain ⟨u', r', q⟩ := hl j y v' e1 e2 e3
    refine ⟨u', r', ?_⟩
    rcases q with ⟨k, e⟩ | ⟨k, c, e, z⟩
    · refine .inl ⟨k, ?_⟩
      have : y ≠ n := fun e => hj (nodup_ix hN e1 (e ▸ hi))
      simp [this, e]
    · exact .inr ⟨k, c, e, z.sameBut hs (I.cne y c e)⟩
  · obtain ⟨w', z⟩ := I.cell y c e
    exact ⟨w', z.sameBut hs (I.cne y c e)⟩
  · obtain ⟨e, n, ne, nf, d⟩ := I.pin p hp
    exact ⟨(hs.2 p.1 ne).trans e, n, ne, nf, d⟩
  · refine (I.hok b ob e).stay (fun c w' hc q => (hs.2 c ?_).trans q) (fun _ q => q) fun _ _ q => q
    rintro rfl
    rcases hc with rfl | hc
    · rw [I.free] at e; cases e
    · rw [I.free] at hc; cases hc
/-- an own exception is one of an own class above it -/
theorem excMatches_own {M : Model} {A : Around} {E : Value → Shared → Prop} {h : Heap} {g : Array GenState} {d : Drawn} {t : Nat} {os : OsState} {e D : Addr} {oe : Obj} {cls : Value} {Q : Bool → Shared → Prop} (he : h.get? e = some oe) (hcls : oe.cls = cls)
    (O : OwnExc h D) (L : PySem.W.Looks M h (isSubtype cls (.ref D)) true) (hq : Q true ⟨h, g, d, t, os⟩) : wpAny M A (excMatches (.ref e) (.ref D)) Q E ⟨h, g, d, t, os⟩ := by
  obtain ⟨b1, b2, b3, b4, b5, b6, b7, b8, b9, b10, b11, b12, b13, b14, b15, b16, b17, hD, hN, hni, T⟩ := O
  have hcB : (Value.ref D :: b1).contains (.type "BaseException") = true := by rw [List.contains_cons, T.hasType PySem.F.excBase_ValueError.hasBase, Bool.or_true]
  have f := tc_notTuple
  unfold excMatches
  repeat (first | (with_reducible refine wpAny_loadPart_at he ?_; rw [hcls]) | with_reducible refine wpAny_loadPart_at hD ?_ | (with_reducible refine wpAny_isSubtype_exc hD ?_; rw [hcB]) | (with_reducible refine L.at ?_) | wp_step)
  exact hq
/-- the context of an except suite -/
def Cx.inExc (X : Cx) (ea : Addr) : Cx := { X with A := X.A.mark (some (.ref ea)), calm := false }
theorem Inv.toExc {X : Cx} {pins : List (Addr × Obj)} {σ : St} {H : Hp} {s : Shared} {ea : Addr} (I : Inv X pins σ H s) (hf : (X.A.mark (some (.ref ea))).frames = some X.stack) : Inv (X.inExc ea) pins σ H s :=
  ⟨⟨I.ok.mod, I.ok.kind, I.ok.glob, I.ok.blt, I.ok.above, I.ok.inj, I.ok.has, I.ok.cab, (by intro z; cases z), hf, I.ok.stk, I.ok.exf, I.ok.bs, I.ok.bsz, I.ok.noex, I.ok.exfs, I.ok.funs, I.ok.frf⟩, I.os, I.bare, I.base, I.loc, I.cell, I.free, I.freeC, I.pin, I.hok, I.len⟩
theorem Inv.ofExc {X : Cx} {pins : List (Addr × Obj)} {σ : St} {H : Hp} {s : Shared} {ea : Addr} (I : Inv (X.inExc ea) pins σ H s) (ok : X.Ok) : Inv X pins σ H s :=
  ⟨ok, I.os, I.bare, I.base, I.loc, I.cell, I.free, I.freeC, I.pin, I.hok, I.len⟩
theorem ps_try {X : Cx} {i : Nat} {D : Addr} {x n : Str} {np pos hpos : Pos} {body : List Stmt} {b₀ : Stmt} {suite : List Stmt} {tb : (St → XK) → TS} {th : TS} (hm : X.mg x = some (.ref D)) (hq : PySem.W.excIn X.K D veMro "ValueError.__new__" = true)
    (hg : Gl X x) (hN : X.N.Nodup) (hi : X.N[i]? = some n) (hl : X.env.scope.names.lookup n = some .local) (hxe : X.xe = fun _ _ => False) (hst : X.stack = X.env :: X.outer) (hfr : X.env.frame = some X.env.locals) (hex : X.ex = [])
    (hb : ∀ pins E, PSs (X.inTry pins E) body (tb E)) (hh : ∀ ea, PSs (X.inExc ea) (b₀ :: suite) th) (hd : (x == ("__debug__" : Str)) = false := by decide) :
    PS X (.Try body [.ExceptHandler (some (.Name x np)) (some n) (b₀ :: suite) hpos] [] [] pos) (tTry X.K tb (.ref D) i th) := by
  intro pins s σ H d I h
  refine wpAny_Try_except (wpAny_mono (hb pins _ [] s σ H d (I.toTry _) h) (fun f s₁ q => ?_) fun e s₁ q => ?_)
  · have q' := SP.ofTry I.ok q
    cases f with
    | next => exact wpAny_execs_nil q'
    | brk => exact q'
    | cont => exact q'
    | ret u => exact q'
  obtain ⟨pins', σ', H1, s1, I1, ea, B, cls, a0, H', rfl, x⟩ := q
  replace I1 : Inv X pins σ' H1 s1 := Inv.ofTry (xe := X.xe) I1 I.ok
  obtain ⟨hec, hsub, hth⟩ := x.want
  have fly := x.fly
  rw [hst] at fly
  have ff := x.fly.2.2.1
  have hfrm : X.A.frames = some (X.env :: X.outer) := by rw [← hst]; exact I.ok.frames
  refine wpAny_looks_onW (base := B) (L := X.env.locals) hfrm hfr fly fun h4 hd4 sm4 => ?_
  refine wpAny_landsW hd4 fun h5 fl5 sm5 => ?_
  have invAt : ∀ {h : Heap} {tk : Nat}, B.StaysIn h → s₁.heap.UpToSlots h → Inv X pins σ' H' { s₁ with heap := h, toks := tk } := fun {h tk} st sm => by
    obtain ⟨un, hok⟩ := x.later st sm ff
    exact I1.call' (ch := []) x.os un hok x.bare fun b z => nomatch z
  have I5 : Inv X pins σ' H' { s₁ with heap := h5 } := invAt (tk := s₁.toks) fl5.1 (sm4.trans sm5)
  have fmark : (X.A.mark (some (.ref ea))).frames = some X.stack := I.ok.frames
  refine wpAny_handleBy_cons (codeAny_handlers_test ?_) (by intro q; cases q)
  refine ld_glob (X := X.inExc ea) (I5.toExc fmark) hg hm ?_ hd
  have kin5 := I5.kIn
  obtain ⟨oe, hoe, hcls⟩ := fl5.there
  refine excMatches_own (cls := cls) hoe hcls (ownExc_of kin5 hq) (PySem.W.looks_subIn kin5 hsub) ?_
  refine codeAny_handlers_suite_as ?_
  refine lands_againW fl5 fun h6 fl6 sm6 => ?_
  have I6 : Inv X pins σ' H' { s₁ with heap := h6 } := invAt (tk := s₁.toks) fl6.1 ((sm4.trans sm5).trans sm6)
  have noat : ∀ b o, s1.heap.get? b = some o → b ≠ ea := fun b o e z => by rw [z, x.new] at e; cases e
  have n0 : X.s₀.heap.get? ea = none := by
    cases q : X.s₀.heap.get? ea with
    | none => rfl
    | some o =>
      obtain ⟨o', e1⟩ := I1.base.there ea o q (by rw [hex]; intro z; cases z)
      exact absurd rfl (noat ea o' e1)
  have nL : ea ≠ X.env.locals := by
    obtain ⟨m, ⟨o, _, _, e, _⟩, _⟩ := I1.loc
    exact (noat _ o e).symm
  have nC : ∀ y c, X.env.cells.lookup y = some c → c ≠ ea := fun y c e => by
    obtain ⟨v, z⟩ := I1.cell y c e
    obtain ⟨o, e1, _⟩ := z
    exact noat c o e1
  have nP : ∀ p ∈ X.pn ++ pins, p.1 ≠ ea := fun p hp => noat _ _ (I1.pin p hp).1
  have isx : ExcIs ea cls h6 := by
    obtain ⟨_, _, _, oe, vs, _, _, _, he, hc, hd, _⟩ := fl6
    exact ⟨oe, vs, he, hc.1, hd⟩
  have I7 := I6.track (o := excO ea cls) x.free n0 nL nC nP ⟨isx, by obtain ⟨oe, _, he, _⟩ := isx; exact ⟨oe, he⟩, fun h1 h2 ⟨oe, vs, he, r⟩ k => ⟨oe, vs, k oe he, r⟩⟩
  refine store_ok (X := X.inExc ea) (v := .ref ea) (I7.toExc fmark) hN hi (.inl hl) rfl (fun s8 I8 => ?_) (.inr hl)
  refine wpAny_mono (hh ea pins s8 _ _ _ I8 (hth ea x.free)) (fun f s9 q => ?_) fun e s9 q => ?_
  · cases f with
    | next =>
      obtain ⟨σ9, H9, I9, r⟩ := q
      exact gone_ok (I9.ofExc I.ok) hN hi hl fun s10 I10 => ⟨_, _, I10, r⟩
    | brk =>
      obtain ⟨σ9, H9, I9, r⟩ := q
      exact gone_ok (I9.ofExc I.ok) hN hi hl fun s10 I10 => ⟨_, _, I10, r⟩
    | cont =>
      obtain ⟨σ9, H9, I9, r⟩ := q
      exact gone_ok (I9.ofExc I.ok) hN hi hl fun s10 I10 => ⟨_, _, I10, r⟩
    | ret u =>
      obtain ⟨v, σ9, H9, I9, rv, r⟩ := q
      exact gone_ok (I9.ofExc I.ok) hN hi hl fun s10 I10 => ⟨v, _, _, I10, rv, r⟩
  · rw [show (X.inExc ea).xe = X.xe from rfl, hxe] at q
    exact q.elim
/-! ### isinstance of a caught exception -/
/-- what the kit must say of an own exception class -/
structure ExcKit (K : PySem.W.Frag) (C : Addr) : Prop where
  ga : PySem.W.findIn K (.ref C) "__getattribute__" = some (some (.builtin "BaseException.__getattribute__"))
  gn : PySem.W.findIn K (.ref C) "__getattr__" = some none
  cl : PySem.W.findIn K (.ref C) "__class__" = some (some (.builtin "object.__class__"))
  mb : PySem.W.mroIn K C (.type "BaseException") = some true
  mo : PySem.W.mroIn K C (.type "object") = some true
  ok : PySem.W.excIn K C veMro "ValueError.__new__" = true
section
open Builtin Builtin.ObjectAttr Builtin.Getset_descriptor PySem.W
variable {K : PySem.W.Frag} {prog : Program} {w : World} {A : Around} {E : Value → Shared → Prop} {h : Heap} {g : Array GenState} {d : Drawn} {t : Nat} {os : OsState} {a C : Addr} {o : Obj}
theorem exc_slotIn : splitId "BaseException.__getattribute__" = some ("BaseException", "__getattribute__") := by decide +kernel
theorem exc_kindIn : builtinKind "BaseException.__getattribute__" = some .slot := by decide +kernel
theorem exc_clsGet {R : Result → Shared → Prop} (X : K.In h) (Z : ExcKit K C) (hx : h.get? a = some o) (hc : o.cls = .ref C) (hq : R (.ok (.ret (.ref C))) ⟨h, g, d, t, os⟩) :
    codeAny (model prog w) A (.call (.builtin "getset_descriptor.__get__") ⟨[.builtin "object.__class__", .ref a, .ref C], []⟩) R ⟨h, g, d, t, os⟩ := by
  have LT : PySem.W.Looks (model prog w) h (typeOf (.ref a)) (.ref C) := hc ▸ (PySem.W.Looks.ld hx).andThen .now
  have LM := PySem.W.looks_mroIn (M := model prog w) X Z.mo
  refine codeAny_call_builtin PySem.W.KF.slot_gs.plain PySem.W.KF.entry_gs (PySem.W.KF.slot_gs.check _ _ _ _ _ _ _ _ PySem.W.KF.type_class (PySem.W.KF.args_gs _ _ _) ?_)
  unfold Builtin.«getset_descriptor.__get__»
  unfold descrGet
  rw [PySem.W.dga_obj]
  refine wpAny_bind (wpAny_pure ?_)
  unfold descrGetter descrCheckInstance
  unfold descrNameAndClass isInstance
  simp only [PySem.W.KF.owner_class]
  repeat lk
  refine ⟨Code.quiet_builtin _ (by decide +kernel), codeAny_builtin PySem.W.KF.entry_class ?_⟩
  unfold Builtin.«object.__class__»
  unfold shownTypeOf
  repeat lk
  exact hq
theorem exc_clsEntry {tk : Tok} {Q : Fin → Shared → Prop} (X : K.In h) (Z : ExcKit K C) (hx : h.get? a = some o) (hc : o.cls = .ref C) (hq : Q (.done (.ret (.ref C))) ⟨h, g, d, t, os⟩) :
    wpAny (model prog w) A (Builtin.«object.__getattribute__» ⟨[.ref a, .str "__class__" tk], []⟩) Q E ⟨h, g, d, t, os⟩ := by
  have LC := PySem.W.looks_findIn (M := model prog w) X Z.cl
  have h5 : (⟨h, g, d, t, os⟩ : Shared).TypeIs (.builtin "object.__class__") "getset_descriptor" := F.typeOf_object_class
  have f5 := F.typeOf_object_class
  have f6 := F.slot_gs_get.lookup
  have f7 := F.slot_gs_set.lookup
  repeat (any_goals (first | assumption | (with_reducible refine wpAny_loadPart_at hx ?_; rw [hc]) | with_reducible refine LC.at ?_ | wp_step))
  refine exc_clsGet X Z hx hc ?_
  repeat (any_goals (first | assumption | wp_step))
theorem exc_clsCheck {M : Model} {v : Value} {Q : Unit → Shared → Prop} (X : K.In h) (Z : ExcKit K C) (hx : h.get? a = some o) (hc : o.cls = .ref C) (hq : Q () ⟨h, g, d, t, os⟩) :
    wpAny M A (checkBuiltinCall "BaseException.__getattribute__" ⟨[.ref a, v], []⟩) Q E ⟨h, g, d, t, os⟩ := by
  have LM := PySem.W.looks_mroIn (M := M) X Z.mb
  have LT : PySem.W.Looks M h (typeOf (.ref a)) (.ref C) := hc ▸ (PySem.W.Looks.ld hx).andThen .now
  have ao := F.args_bexc_ga (.ref a) v
  simp only [checkBuiltinCall, exc_kindIn, exc_slotIn]
  refine wpAny_bind ?_
  unfold isInstance
  refine wpAny_bind (LT.at (LM.at ?_))
  repeat (any_goals (first | assumption | wp_step))
theorem exc_clsBy {tk : Tok} {Q : Value → Shared → Prop} (X : K.In h) (Z : ExcKit K C) (FB : ExcAttrBase "ValueError" veMro) (hx : h.get? a = some o) (hc : o.cls = .ref C) (hq : Q (.ref C) ⟨h, g, d, t, os⟩) :
    wpAny (model prog w) A (getAttrBy (.ref a) (.str "__class__" tk) false) Q E ⟨h, g, d, t, os⟩ := by
  have LG := PySem.W.looks_findIn (M := model prog w) X Z.ga
  have LN := PySem.W.looks_findIn (M := model prog w) X Z.gn
  have f3 := FB.ga.bind (.ref a)
  have n2 : (Value.builtin "BaseException.__getattribute__" == Value.builtin "object.__getattribute__") = false := by decide +kernel
  have n1 : (onTheHeap (Value.ref C) && (Value.builtin "BaseException.__getattribute__" == Value.builtin "object.__getattribute__")) = false := by rw [n2]; rfl
  repeat (any_goals (first | assumption | (with_reducible refine wpAny_loadPart_at hx ?_; rw [hc]) | with_reducible refine LG.at ?_ | with_reducible refine LN.at ?_ | wp_step))
  refine codeAny_call_builtin FB.ga.plain F.entry_bexc_ga (exc_clsCheck X Z hx hc (exc_clsEntry X Z hx hc ?_))
  repeat (any_goals (first | assumption | wp_step))
theorem exc_clsAttr {Q : Option Value → Shared → Prop} (X : K.In h) (Z : ExcKit K C) (FB : ExcAttrBase "ValueError" veMro) (hx : h.get? a = some o) (hc : o.cls = .ref C) (hq : Q (some (.ref C)) ⟨h, g, d, t + 1, os⟩) :
    wpAny (model prog w) A (getAttr? (.ref a) "__class__") Q E ⟨h, g, d, t, os⟩ := by
  unfold getAttr? getAttrBy?
  repeat (any_goals (first | assumption | with_reducible apply exc_clsBy X Z FB hx hc | wp_step))
theorem excCls_of (Z : ExcKit K C) : ExcCls K (.ref C) := ⟨fun x => {
  ty := fun M h _ p => by
    obtain ⟨oe, vs, e, c, _⟩ := p
    exact c ▸ (PySem.W.Looks.ld e).andThen .now
  it := fun M h X _ => by
    obtain ⟨b1, b2, b3, b4, b5, b6, b7, b8, b9, b10, b11, b12, b13, b14, b15, b16, b17, hC, _⟩ := ownExc_of X Z.ok
    intro A' Q' E' s' k q
    unfold isType loadHead
    exact wpAny_bind (wpAny_loadPart (k _ _ hC) (wpAny_pure q))
  ne := fun h tp dd its n sl X htp => by
    obtain ⟨b1, b2, b3, b4, b5, b6, b7, b8, b9, b10, b11, b12, b13, b14, b15, b16, b17, hC, _⟩ := ownExc_of X Z.ok
    refine Bool.eq_false_iff.mpr fun q => ?_
    have e : C = tp := Value.ref.inj (beq_iff_eq.mp q)
    subst e
    rw [hC] at htp
    have z := congrArg Obj.data (Option.some.inj htp)
    exact nomatch z
  ca := fun {prog w A E Q s} X p q => by
    obtain ⟨h, g, d, t, os⟩ := s
    obtain ⟨oe, vs, e, c, _⟩ := p
    exact exc_clsAttr X Z PySem.F.attrBase_ValueError e c q }⟩
end
end L2

/-! Own rules beside the hand layer: a list comprehension of one clause. Behind MyExc. -/
namespace L2
open PySem PySem.Spec PyProof.Rows
theorem cellOf_ok {env : Env} {x : Str} {c : Addr} (h : env.cells.lookup x = some c) : cellOf env x = pure c := by
  unfold cellOf
  rw [h]
theorem closure_go {env : Env} : ∀ (l : List (Str × NameKind)) (cs : List (Str × Addr)), (∀ y ∈ l, y.2 = .free → ∃ c, env.cells.lookup y.1 = some c) → (∀ x c, cs.lookup x = some c → env.cells.lookup x = some c) →
    ∃ cl, (forIn l cs fun (y : Str × NameKind) r => (if (y.2 == .free) = true then do let c ← cellOf env y.1; pure (ForInStep.yield ((y.1, c) :: r)) else pure (ForInStep.yield r) : Sem (ForInStep (List (Str × Addr))))) = pure cl ∧
      (∀ x c, cl.lookup x = some c → env.cells.lookup x = some c) ∧ (∀ y ∈ l, y.2 = .free → ∃ c, cl.lookup y.1 = some c) ∧ ∀ x, (∃ c, cs.lookup x = some c) → ∃ c, cl.lookup x = some c
  | [], cs, _, hc => ⟨cs, by simp, hc, by simp, fun _ h => h⟩
  | y :: l, cs, hf, hc => by
    have hf' : ∀ z ∈ l, z.2 = .free → ∃ c, env.cells.lookup z.1 = some c := fun z hz => hf z (List.mem_cons_of_mem _ hz)
    by_cases hy : y.2 = .free
    · obtain ⟨c, e⟩ := hf y List.mem_cons_self hy
      have hc' : ∀ x d, List.lookup x ((y.1, c) :: cs) = some d → env.cells.lookup x = some d := fun x d q => by
        rw [List.lookup_cons] at q
        split at q
        · rename_i b
          cases q
          rw [beq_iff_eq.mp b, e]
        · exact hc x d q
      obtain ⟨cl, e1, e2, e3, e4⟩ := closure_go l ((y.1, c) :: cs) hf' hc'
      refine ⟨cl, ?_, e2, fun z hz q => ?_, fun x ⟨d, q⟩ => e4 x ?_⟩
      · rw [List.forIn_cons, if_pos (by rw [hy]; rfl), cellOf_ok e]
        simpa using e1
      · rcases List.mem_cons.mp hz with r | r
        · exact e4 z.1 ⟨c, by rw [r, List.lookup_cons]; simp⟩
        · exact e3 z r q
      · rw [List.lookup_cons]
        split
        · exact ⟨_, rfl⟩
        · exact ⟨d, q⟩
    · obtain ⟨cl, e1, e2, e3, e4⟩ := closure_go l cs hf' hc
      refine ⟨cl, ?_, e2, fun z hz q => ?_, e4⟩
      · rw [List.forIn_cons, if_neg (by simpa using hy)]
        simpa using e1
      · rcases List.mem_cons.mp hz with r | r
        · rw [r] at q; exact absurd q hy
        · exact e3 z r q
theorem closure_ok {scope : Scope} {env : Env} (h : ∀ y ∈ scope.names, y.2 = .free → ∃ c, env.cells.lookup y.1 = some c) :
    ∃ cl, closureFor scope env = pure cl ∧ (∀ x c, cl.lookup x = some c → env.cells.lookup x = some c) ∧ ∀ y ∈ scope.names, y.2 = .free → ∃ c, cl.lookup y.1 = some c := by
  obtain ⟨cl, e1, e2, e3, _⟩ := closure_go scope.names [] h (by simp)
  refine ⟨cl, ?_, e2, e3⟩
  unfold closureFor
  simp only [bind_pure]
  exact e1

/-- one clause, any target, any tests: the loop by an invariant and a measure -/
theorem compLoop_any {P : Program} {w : World} {A : Around} {R : Result → Shared → Prop} {s : Shared} {elt target iter : Expr} {ifs : List Expr} {scope : Scope} {pos : Pos} {it acc : Value} {env : Env} {Z : Value → Shared → Prop} (J : Nat → Shared → Prop)
    (hZ : Z = notedBy (model P w) A env fun e s' => R (.error e) s')
    (turn : ∀ n s, J n s → wpAny (model P w) A (pyNext it) (fun r s1 => match r with
      | none => R (.ok .next) s1
      | some v => wpAny (model P w) A (letOwnedTupleGo target it v) (fun _ s2 => wpAny (model P w) A (assign target env v) (fun _ s3 =>
          wpAny (model P w) A (forIn ifs true fun c r => if r = true then do let ok ← isTrue c env (eval c env); pure (ForInStep.yield ok) else pure (ForInStep.yield r)) (fun ok s4 =>
            if ok = true then wpAny (model P w) A (eval elt env) (fun x s5 => wpAny (model P w) A (call (.builtin "list.append") [acc, x]) (fun _ s6 => ∃ m, m < n ∧ J m s6) Z s5) Z s4
            else ∃ m, m < n ∧ J m s4) Z s3) Z s2) Z s1) Z s)
    (n : Nat) (h : J n s) : codeAny (model P w) A (.compLoop (.ListComp elt [⟨target, iter, ifs, 0⟩] scope pos) 0 it acc env) R s := by
  subst hZ
  refine codeAny_loop rfl J (fun n s hJ => ?_) n h
  show wpAny _ _ (Sem.onRaise (compTurn (.ListComp elt [⟨target, iter, ifs, 0⟩] scope pos) 0 it acc env) fun x => do noteFrame x env; theTreesLotGoes x) _ _ s
  refine wpAny_noted ?_
  rw [compTurn_list]
  refine wpAny_bind (wpAny_standAt (wpAny_bind (thn (turn n s hJ) fun r s1 h1 => ?_)))
  cases r with
  | none => exact wpAny_pure h1
  | some v =>
    refine wpAny_bind (thn h1 fun _ s2 h2 => wpAny_bind (thn h2 fun _ s3 h3 => wpAny_bind (thn h3 fun ok s4 h4 => ?_)))
    cases ok with
    | false => exact wpAny_pure ⟨rfl, h4⟩
    | true => exact wpAny_bind (wpAny_bind (thn h4 fun x s5 h5 => wpAny_bind (thn h5 fun _ s6 h6 => wpAny_pure (wpAny_pure ⟨rfl, h6⟩))))
/-- a comprehension's tests -/
def PTs (X : Cx) (ifs : List Expr) (t : TT) : Prop := ∀ (pins : List (Addr × Obj)) (s : Shared) (σ : St) (H : Hp) (Q : Bool → Hp → Prop), Inv X pins σ H s → t σ H Q →
  wpAny (model X.prog X.w) X.A (forIn ifs true fun c r => if r = true then do let ok ← isTrue c X.env (eval c X.env); pure (ForInStep.yield ok) else pure (ForInStep.yield r)) (TP X pins σ Q) X.xe s
def tNoTest : TT := fun _ H Q => Q true H
theorem pts_nil {X : Cx} : PTs X [] tNoTest := fun _ _ _ H _ I h => wpAny_tests_nil ⟨H, I, h⟩
/-- the captured names' values -/
def capS (cap : List (Option Nat)) (σ : St) : St := cap.map fun o => o.bind fun j => (σ[j]?).join
def tComp (wi : TI) (g : TG) (tt : TT) (te : TE) (cap : List (Option Nat)) : TE := fun σ H Q => wi σ H fun J H1 => ∀ D, H1 D = none → ∃ W : Nat → Nat → St → Hp → Prop, (∃ m, W 0 m (capS cap σ) (upd H1 D (.lst []))) ∧ ∀ i m σc Hc, W i m σc Hc →
  (J.stop i Hc ∧ Q (.ref D) Hc) ∨ (J.go i Hc ∧ ∃ N : St → Hp → Prop, (∀ σ' H', N σ' H' → ∃ m', m' < m ∧ W (i + 1) m' σ' H') ∧ ∀ x H', J.yld i Hc x H' → g x σc H' fun σ2 H2 => tt σ2 H2 fun b H3 => if b = true then te σ2 H3 fun y H4 => rAppend (.ref D) [y] H4 fun _ H5 => N σ2 H5 else N σ2 H3)
/-- the context of a comprehension's block -/
def Cx.blk (X : Cx) (Nc : List Str) (scope : Scope) (cl : List (Str × Addr)) (s : Shared) (H : Hp) (fp : List Addr) : Cx := { X with
  N := Nc, s₀ := s, H₀ := H, env := compEnvC scope cl s.heap.objs.size X.env, outer := X.stack, stack := X.stack, ex := fp, fn := fun _ => false, pn := [], xe := fun _ _ => False }
/-- what is to be seen of a comprehension's names -/
structure BlkOk (sc : Scope) (N Nc : List Str) (cap : List (Option Nat)) (scope : Scope) : Prop where
  kind : scope.kind = .function
  nocell : ∀ y ∈ scope.names, y.2 ≠ .cell
  free : ∀ y ∈ scope.names, y.2 = .free → sc.names.lookup y.1 = some .cell ∨ sc.names.lookup y.1 = some .free
  once : ∀ y ∈ scope.names, scope.names.lookup y.1 = some y.2
  nd : Nc.Nodup
  len : cap.length = Nc.length
  cap : ∀ (i : Nat) (y : Str) (j : Nat), Nc[i]? = some y → cap[i]? = some (some j) → N[j]? = some y ∧ scope.names.lookup y = some .free
def blkChk (sc : Scope) (N Nc : List Str) (cap : List (Option Nat)) (scope : Scope) : Bool :=
  scope.kind == .function && scope.names.all (fun y => y.2 != .cell && scope.names.lookup y.1 == some y.2 && (y.2 != .free || sc.names.lookup y.1 == some .cell || sc.names.lookup y.1 == some .free)) && decide Nc.Nodup && cap.length == Nc.length
    && (Nc.zip cap).all fun p => p.2.all fun j => N[j]? == some p.1 && scope.names.lookup p.1 == some .free
theorem BlkOk.of {sc : Scope} {N Nc : List Str} {cap : List (Option Nat)} {scope : Scope} (h : blkChk sc N Nc cap scope = true) : BlkOk sc N Nc cap scope := by
  unfold blkChk at h
  simp only [Bool.and_eq_true, beq_iff_eq, List.all_eq_true, bne_iff_ne, ne_eq, Bool.or_eq_true, decide_eq_true_eq] at h
  obtain ⟨⟨⟨⟨h1, h2⟩, h3⟩, h4⟩, h5⟩ := h
  refine ⟨h1, fun y hy => (h2 y hy).1.1, fun y hy hf => ?_, fun y hy => (h2 y hy).1.2, h3, h4, fun i y j e1 e2 => ?_⟩
  · rcases (h2 y hy).2 with (q | q) | q
    · exact absurd hf q
    · exact .inl q
    · exact .inr q
  · have m : (y, some j) ∈ Nc.zip cap := by
      refine List.mem_of_getElem? (i := i) ?_
      rw [List.getElem?_zip_eq_some]
      exact ⟨e1, e2⟩
    have z := h5 _ m
    simpa using z
theorem relabel_lookup {env : Env} {x : Str} : ∀ {names : List (Str × NameKind)} {k : NameKind}, ((names.map fun (n, k) => if (k == NameKind.free && env.scope.kind == .function && env.kindOf n == some .cell) then (n, NameKind.cell) else (n, k)).lookup x = some k) → k ≠ .cell ∧ names.lookup x = some k ∨ (k = .cell ∧ (names.lookup x = some .cell ∨ names.lookup x = some .free))
  | [], _, h => by simp at h
  | (n, q) :: r, k, h => by
    have ih := @relabel_lookup env x r k
    rw [List.map_cons] at h
    dsimp only at h
    by_cases hx : (x == n) = true
    · by_cases hc : (q == NameKind.free && env.scope.kind == .function && env.kindOf n == some .cell) = true
      · rw [if_pos hc, List.lookup_cons, hx] at h
        cases h
        rw [Bool.and_eq_true, Bool.and_eq_true] at hc
        refine .inr ⟨rfl, .inr ?_⟩
        rw [List.lookup_cons, hx]
        exact congrArg some (beq_iff_eq.mp hc.1.1)
      · rw [if_neg hc, List.lookup_cons, hx] at h
        cases h
        rw [List.lookup_cons, hx]
        by_cases z : q = .cell
        · exact .inr ⟨z, .inl (congrArg some z)⟩
        · exact .inl ⟨z, rfl⟩
    · have hx' : (x == n) = false := by simpa using hx
      rw [List.lookup_cons, hx']
      refine ih ?_
      by_cases hc : (q == NameKind.free && env.scope.kind == .function && env.kindOf n == some .cell) = true
      · rw [if_pos hc, List.lookup_cons, hx'] at h
        exact h
      · rw [if_neg hc, List.lookup_cons, hx'] at h
        exact h

section
variable {X : Cx} {pins : List (Addr × Obj)} {σ : St} {H : Hp} {s : Shared}
theorem blk_inv {Nc : List Str} {cap : List (Option Nat)} {scope : Scope} {cl : List (Str × Addr)} {fp : List Addr} {h1 : Heap} {tk : Nat} {m1 : Str → Option Value} (I : Inv X pins σ H s) (B : BlkOk X.env.scope X.N Nc cap scope)
    (hsub : ∀ x c, cl.lookup x = some c → X.env.cells.lookup x = some c) (hfr : ∀ y ∈ scope.names, y.2 = .free → ∃ c, cl.lookup y.1 = some c) (hf : ∀ b ∈ fp, FpOk X pins H b) (hin : ∀ b ∈ fp, b < s.heap.objs.size)
    (hk : ∀ b o, s.heap.get? b = some o → h1.get? b = some o) (hn : h1.Ns s.heap.objs.size m1) : Inv (X.blk Nc scope cl s H fp) [] (capS cap σ) H { s with heap := h1, toks := tk } := by
  have ok := I.ok
  have bsz : X.base.objs.size ≤ s.heap.objs.size := Nat.le_trans ok.bsz I.sz
  refine ⟨⟨ok.mod, B.kind, ok.glob, ok.blt, Nat.le_refl _, fun x y c h1 h2 => ok.inj x y c (hsub x c h1) (hsub y c h2), fun x hx => ?_, (by intro x c z; cases z), ok.hd, ok.frames, .inl rfl, fun b hb => ⟨Nat.ne_of_lt (hin b hb), fun x c e => (hf b hb).2.2.2.2.1 x c (hsub x c e)⟩,
    I.bs, bsz, fun b o e hb => ?_, fun b hb z => ?_, I.stack, I.stkFree⟩, rfl, I.bare, Un.kept hk, ⟨m1, hn, fun i y v e1 e2 e3 => ?_⟩, fun x c e => ?_, I.hok.fresh (Nat.le_refl _), fun x c e => I.freeC x c (hsub x c e), (by intro p hp; cases hp), I.hok.kept hk, ?_⟩
  · have look : ∀ k, (relabel scope X.env).names.lookup x = some k → k = .cell ∨ k = .free → ∃ c, cl.lookup x = some c := fun k q hk => by
      rcases relabel_lookup q with ⟨n1, n2⟩ | ⟨_, n2 | n2⟩
      · rcases hk with r | r
        · exact absurd r n1
        · exact hfr (x, k) (PySem.mem_of_lookup n2) r
      · exact absurd rfl (B.nocell _ (PySem.mem_of_lookup n2))
      · exact hfr (x, .free) (PySem.mem_of_lookup n2) rfl
    rcases hx with q | q
    · exact look _ q (.inl rfl)
    · exact look _ q (.inr rfl)
  · rcases (hf b hb).2.2.2.1 with q | q
    · exact ok.noex b o e q
    · exact absurd (Nat.lt_of_lt_of_le (Heap.lt_size e) (Nat.le_trans ok.bsz q)) (Nat.lt_irrefl _)
  · rcases List.mem_cons.mp (I.stkSub b z) with q | q
    · exact (hf b hb).2.1 q
    · exact (hf b hb).2.2.1 q
  · have e2' : (cap[i]?).map (fun o => o.bind fun j => (σ[j]?).join) = some (some v) := by rw [← List.getElem?_map]; exact e2
    obtain ⟨o, ho, eo⟩ := Option.map_eq_some_iff.mp e2'
    obtain ⟨j, rfl, ej⟩ := Option.bind_eq_some_iff.mp eo
    have ej' : σ[j]? = some (some v) := by
      cases q : σ[j]? with
      | none => rw [q] at ej; cases ej
      | some z => rw [q] at ej; cases ej; rfl
    obtain ⟨c1, c2⟩ := B.cap i y j e1 ho
    have vis := B.free (y, .free) (PySem.mem_of_lookup c2) rfl
    obtain ⟨m, _, hl⟩ := I.loc
    obtain ⟨u, r, lk⟩ := hl j y v c1 ej' (.inr vis)
    obtain ⟨c', ec⟩ := hfr (y, .free) (PySem.mem_of_lookup c2) rfl
    have ec2 := hsub _ _ ec
    rcases lk with ⟨kl, _⟩ | ⟨_, c, e, z⟩
    · have kl' : X.env.scope.names.lookup y = some .local := kl
      rcases vis with q | q
      · have q' : X.env.scope.names.lookup y = some .cell := q
        rw [kl'] at q'; cases q'
      · have q' : X.env.scope.names.lookup y = some .free := q
        rw [kl'] at q'; cases q'
    · have ecc : X.env.cells.lookup y = some c' := ec2
      rw [e] at ecc
      cases ecc
      refine ⟨u, r, .inr ⟨?_, _, ec, ?_⟩⟩
      · rcases e3 with q | q | q
        · rcases relabel_lookup q with ⟨_, n2⟩ | ⟨n1, _⟩
          · rw [c2] at n2; cases n2
          · cases n1
        · exact .inl q
        · exact .inr q
      · obtain ⟨o, ho, hd⟩ := z
        exact ⟨o, hk _ _ ho, hd⟩
  · obtain ⟨v, o, ho, hd⟩ := I.cell x c (hsub x c e)
    exact ⟨v, o, hk _ _ ho, hd⟩
  · show (capS cap σ).length = Nc.length
    rw [capS, List.length_map, B.len]
/-- behind the block -/
theorem blk_out {Nc : List Str} {scope : Scope} {cl : List (Str × Addr)} {fp : List Addr} {σc : St} {Hc : Hp} {s' : Shared} {h' : Heap} (I : Inv X pins σ H s) (hf : ∀ b ∈ fp, FpOk X pins H b) (J : Inv (X.blk Nc scope cl s H fp) [] σc Hc s')
    (hs : Heap.SameBut s.heap.objs.size s'.heap h') : Inv X pins σ Hc { s' with heap := h' } := by
  have ne : ∀ b o, s.heap.get? b = some o → b ≠ s.heap.objs.size := fun b o e => Nat.ne_of_lt (Heap.lt_size e)
  have u := J.base
  refine I.call' (ch := fp) J.os ⟨fun b o e n hb hx => (hs.2 b (ne b o e)).trans (u.keep b o e n hb hx), fun b o e n hb hx => ?_, u.free, fun b o e hx => ?_, u.tups, u.frzs, u.tbls⟩ (fun b ob e => ?_) J.bare fun b hb => ⟨(hf b hb).2.2.2.1, (hf b hb).2.1, (hf b hb).2.2.2.2.1, (hf b hb).2.2.2.2.2⟩
  · obtain ⟨sl, q⟩ := u.slot b o e n hb hx
    exact ⟨sl, (hs.2 b (ne b o e)).trans q⟩
  · obtain ⟨o', q⟩ := u.there b o e hx
    exact ⟨o', (hs.2 b (ne b o e)).trans q⟩
  · have hC : Hc s.heap.objs.size = none := J.free
    refine (J.hok b ob e).stay (fun c w' hc q => (hs.2 c ?_).trans q) (fun _ q => q) fun _ _ q => q
    rintro rfl
    rcases hc with z | hc
    · rw [← z, hC] at e; cases e
    · rw [hC] at hc; cases hc
end

/-- [elt for tg in iter if ..]: the walk, whatever is done with the list -/
theorem comp_core {X : Cx} {pins : List (Addr × Obj)} {s : Shared} {σ : St} {H : Hp} {Q : VK} {sc : Scope} {N Nc : List Str} {cap : List (Option Nat)} {elt tg iter : Expr} {ifs : List Expr} {scope : Scope} {pos pos' : Pos} {wi : TI} {g : TG} {tt : TT} {te : TE} {use : Option (Value → Sem Unit)} {QQ : Value → Shared → Prop}
    (hc : X.calm = true) (hsc : X.env.scope = sc) (hN : X.N = N) (B : BlkOk sc N Nc cap scope) (hi : PI X tg iter wi)
    (hg : ∀ cl s H fp, PG (X.blk Nc scope cl s H fp) tg g) (ht : ∀ cl s H fp, PTs (X.blk Nc scope cl s H fp) ifs tt) (he : ∀ cl s H fp, PE (X.blk Nc scope cl s H fp) elt te)
    (hs : ∀ x, foldedSetIterable iter X.env x = pure x) (I : Inv X pins σ H s) (h : tComp wi g tt te cap σ H Q)
    (fin : ∀ (s3 : Shared) (H3 : Hp) (cl : List (Str × Addr)) (fp : List Addr) (D : Addr) (σc : St) (Hc : Hp) (s6 : Shared), Inv X pins σ H3 s3 → (∀ b ∈ fp, FpOk X pins H3 b) → Inv (X.blk Nc scope cl s3 H3 fp) [] σc Hc s6 → Q (.ref D) Hc → compPost (model X.prog X.w) X.A X.xe use QQ (.ref D) s3.heap.objs.size (.ok .next) s6) :
    wpAny (model X.prog X.w) X.A (comprehension (.ListComp elt [⟨tg, iter, ifs, 0⟩] scope pos) scope X.env pos' (newList []) false (eval iter X.env) use) QQ X.xe s := by
  subst hsc hN
  obtain ⟨cl, hclos, hsub, hfr⟩ := closure_ok (scope := scope) (env := X.env) fun y hy hf => I.ok.has y.1 (B.free y hy hf)
  refine wpAny_comprehension_free (use := use) rfl hs hclos B.kind (fun y hy hl => by rw [B.once y hy, hl]) (thn (hi pins s σ H _ I h) fun v s1 h1 => thn h1 fun itv s2 h2 => ?_)
  obtain ⟨it, fp, tn, J, H2, rfl, I2, T, st2, f2, hw⟩ := h2
  refine wpAny_newObj_type ?_
  have hfree : H2 s2.heap.objs.size = none := I2.hok.fresh (Nat.le_refl _)
  have I3 := I2.laid (t' := s2.toks) (o := .lst []) (fun b u e => Heap.get?_push_of_some { cls := .type "list", dict := none, data := .seq ([] : List Value).toArray } e) (Nat.le_refl _) ⟨by decide, [], 0, .nil, Heap.get?_push_size _ rfl⟩
  obtain ⟨W, ⟨m0, w0⟩, turn⟩ := hw _ hfree
  have keep23 : ∀ b o, s2.heap.get? b = some o → (s2.heap.push { cls := .type "list", dict := none, data := .seq ([] : List Value).toArray }).get? b = some o := fun b o e => Heap.get?_push_of_some _ e
  have hin : ∀ b ∈ fp, b < s2.heap.objs.size := fun b hb => let ⟨o, e, _⟩ := T.obj 0 _ st2 b hb; Heap.lt_size e
  have f3 : ∀ b ∈ fp, FpOk X pins (upd H2 s2.heap.objs.size (.lst [])) b := fun b hb => ⟨by rw [upd_ne (Nat.ne_of_lt (hin b hb))]; exact (f2 b hb).1, (f2 b hb).2⟩
  have st3 := T.keep 0 _ _ st2 fun b _ o e => keep23 b o e
  have hin3 : ∀ b ∈ fp, b < (s2.heap.push { cls := .type "list", dict := none, data := .seq ([] : List Value).toArray }).objs.size := fun b hb => let ⟨o, e, _⟩ := T.obj 0 _ st3 b hb; Heap.lt_size e
  clear keep23 hin
  generalize s2.heap.push { cls := .type "list", dict := none, data := .seq ([] : List Value).toArray } = h3 at I3 st3 hin3 ⊢
  generalize upd H2 s2.heap.objs.size (.lst []) = H3 at I3 f3 w0
  generalize s2.heap.objs.size = D at hfree w0 turn ⊢
  refine wpAny_newFunctionEnv B.nocell (by intro y hy; cases hy) (fun h1 hns hsb => ?_) B.kind
  have keep : ∀ b o, h3.get? b = some o → h1.get? b = some o := fun b o e => (hsb.2 b (Nat.ne_of_lt (Heap.lt_size e))).trans (Heap.get?_push_of_some _ e)
  have I4 := blk_inv (tk := s2.toks + ([] : List (Str × Value)).length) I3 B hsub hfr f3 hin3 keep hns
  have st4 := T.keep 0 _ _ st3 fun b _ o e => keep b o e
  have stat : ∀ {H' : Hp}, (∀ b ∈ fp, H' b = none) → ∀ b ∈ fp, FpOk (X.blk Nc scope cl { s2 with heap := h3, toks := s2.toks } H3 fp) [] H' b := fun hn b hb =>
    ⟨hn b hb, Nat.ne_of_lt (hin3 b hb), fun z => by
      rcases List.mem_cons.mp (I3.stkSub b z) with q | q
      · exact (f3 b hb).2.1 q
      · exact (f3 b hb).2.2.1 q, .inl hb, fun x c e => (f3 b hb).2.2.2.2.1 x c (hsub x c e), by intro p hp; cases hp⟩
  have hcb : (X.blk Nc scope cl { s2 with heap := h3, toks := s2.toks } H3 fp).calm = true := hc
  have loop : codeAny (model X.prog X.w) X.A (.compLoop (.ListComp elt [⟨tg, iter, ifs, 0⟩] scope pos) 0 (.ref it) (.ref D) (compEnvC scope cl h3.objs.size X.env)) (compPost (model X.prog X.w) X.A X.xe use QQ (.ref D) h3.objs.size) { s2 with heap := h1, toks := s2.toks + ([] : List (Str × Value)).length } := by
    refine compLoop_any (fun n s' => ∃ i σ' H', Inv (X.blk Nc scope cl { s2 with heap := h3, toks := s2.toks } H3 fp) [] σ' H' s' ∧ tn i s'.heap ∧ (∀ b ∈ fp, H' b = none) ∧ W i n σ' H') rfl ?_ m0 ⟨0, _, H3, I4, st4, fun b hb => (f3 b hb).1, w0⟩
    rintro n s5 ⟨i, σ5, H5, I5, st5, fr5, w5⟩
    rcases turn i n σ5 H5 w5 with ⟨stop, qn⟩ | ⟨go, N', hN', step⟩
    · refine thn (T.done (X.blk Nc scope cl { s2 with heap := h3, toks := s2.toks } H3 fp) rfl rfl rfl hcb i [] s5 σ5 H5 _ I5 (stat fr5) st5 stop) fun r s6 ⟨hr, I6⟩ => ?_
      subst hr
      exact fin { s2 with heap := h3, toks := s2.toks } H3 cl fp D σ5 H5 s6 I3 f3 I6 qn
    · refine thn (T.item (X.blk Nc scope cl { s2 with heap := h3, toks := s2.toks } H3 fp) rfl rfl rfl hcb i [] s5 σ5 H5 _ I5 (stat fr5) st5 go) fun r s6 ⟨u, hr, h6⟩ => ?_
      subst hr
      refine thn h6 fun _ s7 ⟨x, H7, I7, r7, y7, st7, fr7⟩ => ?_
      have I7' := I7.pinned (stat fr7) (T.obj _ _ st7)
      refine wpAny_mono (hg cl _ H3 fp _ s7 σ5 H7 x u _ I7' r7 (step x H7 y7)) (fun _ s8 ⟨σ8, H8, I8, q8⟩ => ?_) fun _ _ z => z.elim
      have again : ∀ {H9 : Hp} {s9 : Shared} {m : Nat}, Inv (X.blk Nc scope cl { s2 with heap := h3, toks := s2.toks } H3 fp) ([] ++ pinsAt fp s7.heap) σ8 H9 s9 → m < n → W (i + 1) m σ8 H9 → ∃ m, m < n ∧ ∃ i σ' H', Inv (X.blk Nc scope cl { s2 with heap := h3, toks := s2.toks } H3 fp) [] σ' H' s9 ∧ tn i s9.heap ∧ (∀ b ∈ fp, H' b = none) ∧ W i m σ' H' := fun {H9 s9 m} I9 hm w9 => by
        refine ⟨m, hm, i + 1, σ8, H9, I9.unpinned, T.keep _ _ _ st7 fun b hb o e => (I9.pin (b, o) (List.mem_append_right _ (List.mem_append_right _ (mem_pinsAt hb e)))).1, fun b hb => ?_, w9⟩
        obtain ⟨o, e, d⟩ := T.obj _ _ st7 b hb
        exact (I9.pin (b, o) (List.mem_append_right _ (List.mem_append_right _ (mem_pinsAt hb e)))).2.1
      refine wpAny_mono (ht cl _ H3 fp _ s8 σ8 H8 _ I8 q8) (fun b s9 ⟨H9, I9, q9⟩ => ?_) fun _ _ z => z.elim
      cases b with
      | false =>
        rw [if_neg (by decide)] at q9
        obtain ⟨m', hm, w9⟩ := hN' _ _ q9
        exact again I9 hm w9
      | true =>
        rw [if_pos rfl] at q9
        refine wpAny_mono (he cl _ H3 fp _ s9 σ8 H9 _ I9 q9) (fun u s10 ⟨y, H10, I10, r10, q10⟩ => ?_) fun _ _ z => z.elim
        refine wpAny_mono (mt_append (X := X.blk Nc scope cl { s2 with heap := h3, toks := s2.toks } H3 fp) _ s10 σ8 H10 (.ref D) [y] (.ref D) [u] _ I10 rfl (.cons r10 .nil) q10) (fun _ s11 ⟨_, H11, I11, _, q11⟩ => ?_) fun _ _ z => z.elim
        obtain ⟨m', hm, w11⟩ := hN' _ _ q11
        exact again I11 hm w11
  exact codeAny_compStart_list loop (T.self _ 0 _ _ _ st4 loop)
/-- [elt for tg in iter if ..] -/
theorem pe_comp {X : Cx} {sc : Scope} {N Nc : List Str} {cap : List (Option Nat)} {elt tg iter : Expr} {ifs : List Expr} {scope : Scope} {pos : Pos} {wi : TI} {g : TG} {tt : TT} {te : TE} (hc : X.calm = true) (hsc : X.env.scope = sc) (hN : X.N = N) (B : BlkOk sc N Nc cap scope) (hi : PI X tg iter wi)
    (hg : ∀ cl s H fp, PG (X.blk Nc scope cl s H fp) tg g) (ht : ∀ cl s H fp, PTs (X.blk Nc scope cl s H fp) ifs tt) (he : ∀ cl s H fp, PE (X.blk Nc scope cl s H fp) elt te)
    (hs : ∀ x, foldedSetIterable iter X.env x = pure x := by intro _; rfl) : PE X (.ListComp elt [⟨tg, iter, ifs, 0⟩] scope pos) (tComp wi g tt te cap) := by
  intro pins s σ H Q I h
  rw [eval_ListComp]
  refine comp_core hc hsc hN B hi hg ht he hs I h fun s3 H3 cl fp D σc Hc s6 I3 f3 I6 q => ?_
  obtain ⟨m, hn, _⟩ := id I6.loc
  exact ⟨m, hn, fun h' hs' => ⟨.ref D, Hc, blk_out I3 f3 I6 hs', rfl, q⟩⟩
/-- the forms one uses: over a list that the element leaves as it is; ys is what has been told -/
theorem comp_list {K : PySem.W.Frag} {a : Addr} {xs : List V} {g : TG} {tt : TT} {te : TE} {σ : St} {H : Hp} {D : Addr} {Q : VK} (Pv : Nat → List V → St → Hp → Prop) (h0 : Pv 0 [] σ (upd H D (.lst []))) (hl : ∀ i ys σ H, i ≤ xs.length → Pv i ys σ H → SqL K H a xs)
    (hs : ∀ i x ys σ H, xs[i]? = some x → H D = some (.lst ys) → Pv i ys σ H → g x σ H fun σ2 H2 => tt σ2 H2 fun b H3 => if b = true then te σ2 H3 fun y H4 => rAppend (.ref D) [y] H4 fun _ H5 => ∃ ys, H5 D = some (.lst ys) ∧ Pv (i + 1) ys σ2 H5 else ∃ ys, H3 D = some (.lst ys) ∧ Pv (i + 1) ys σ2 H3)
    (hd : ∀ ys σ H, H D = some (.lst ys) → Pv xs.length ys σ H → Q (.ref D) H) :
    ∃ W : Nat → Nat → St → Hp → Prop, (∃ m, W 0 m σ (upd H D (.lst []))) ∧ ∀ i m σc Hc, W i m σc Hc →
      ((Itl K a).stop i Hc ∧ Q (.ref D) Hc) ∨ ((Itl K a).go i Hc ∧ ∃ N : St → Hp → Prop, (∀ σ' H', N σ' H' → ∃ m', m' < m ∧ W (i + 1) m' σ' H') ∧ ∀ x H', (Itl K a).yld i Hc x H' → g x σc H' fun σ2 H2 => tt σ2 H2 fun b H3 => if b = true then te σ2 H3 fun y H4 => rAppend (.ref D) [y] H4 fun _ H5 => N σ2 H5 else N σ2 H3) := by
  refine ⟨fun i m σ H => m = xs.length - i ∧ i ≤ xs.length ∧ ∃ ys, H D = some (.lst ys) ∧ Pv i ys σ H, ⟨_, rfl, Nat.zero_le _, [], upd_same, h0⟩, ?_⟩
  rintro i m σ H ⟨rfl, hi, ys, hD, pv⟩
  have q := hl i ys σ H hi pv
  by_cases hlt : i < xs.length
  · refine .inr ⟨⟨xs, xs[i], q, by simp [hlt]⟩, fun σ H => ∃ ys, H D = some (.lst ys) ∧ Pv (i + 1) ys σ H, fun σ' H' p' => ⟨_, by omega, rfl, hlt, p'⟩, fun x H' yl => ?_⟩
    obtain ⟨e, yl⟩ := yl
    subst e
    exact hs i x ys σ _ (yl xs q) hD pv
  · have e : i = xs.length := by omega
    subst e
    exact .inl ⟨⟨xs, q, Nat.le_refl _⟩, hd ys σ H hD pv⟩
/-- over range(lo, lo + n) -/
theorem comp_range {lo : Int} {n : Nat} {g : TG} {tt : TT} {te : TE} {σ : St} {H : Hp} {D : Addr} {Q : VK} (Pv : Nat → List V → St → Hp → Prop) (h0 : Pv 0 [] σ (upd H D (.lst [])))
    (hs : ∀ i ys σ H, i < n → H D = some (.lst ys) → Pv i ys σ H → g (.int (lo + i)) σ H fun σ2 H2 => tt σ2 H2 fun b H3 => if b = true then te σ2 H3 fun y H4 => rAppend (.ref D) [y] H4 fun _ H5 => ∃ ys, H5 D = some (.lst ys) ∧ Pv (i + 1) ys σ2 H5 else ∃ ys, H3 D = some (.lst ys) ∧ Pv (i + 1) ys σ2 H3)
    (hd : ∀ ys σ H, H D = some (.lst ys) → Pv n ys σ H → Q (.ref D) H) :
    ∃ W : Nat → Nat → St → Hp → Prop, (∃ m, W 0 m σ (upd H D (.lst []))) ∧ ∀ i m σc Hc, W i m σc Hc →
      ((Itr lo n).stop i Hc ∧ Q (.ref D) Hc) ∨ ((Itr lo n).go i Hc ∧ ∃ N : St → Hp → Prop, (∀ σ' H', N σ' H' → ∃ m', m' < m ∧ W (i + 1) m' σ' H') ∧ ∀ x H', (Itr lo n).yld i Hc x H' → g x σc H' fun σ2 H2 => tt σ2 H2 fun b H3 => if b = true then te σ2 H3 fun y H4 => rAppend (.ref D) [y] H4 fun _ H5 => N σ2 H5 else N σ2 H3) := by
  refine ⟨fun i m σ H => m = n - i ∧ i ≤ n ∧ ∃ ys, H D = some (.lst ys) ∧ Pv i ys σ H, ⟨_, rfl, Nat.zero_le _, [], upd_same, h0⟩, ?_⟩
  rintro i m σ H ⟨rfl, hi, ys, hD, pv⟩
  by_cases hlt : i < n
  · refine .inr ⟨hlt, fun σ H => ∃ ys, H D = some (.lst ys) ∧ Pv (i + 1) ys σ H, fun σ' H' p' => ⟨_, by omega, rfl, hlt, p'⟩, fun x H' yl => ?_⟩
    obtain ⟨e, yl⟩ := yl
    subst e yl
    exact hs i ys σ _ hlt hD pv
  · have e : i = n := by omega
    subst e
    exact .inl ⟨Nat.le_refl _, hd ys σ H hD pv⟩
end L2

/-! Own rules beside the hand layer: all, any, sum of a list. Behind MyComp; imports PyProof.ConsumeWalk, PyProof.SumWalkG. -/
namespace L2
open PySem PySem.Spec PyProof.Rows
/-! ### all, any, sum of a list -/
def rAll (K : PySem.W.Frag) : List V → Hp → VK → Prop := fun xs H Q => ∃ (p : Addr) (bs : List Bool), xs = [.ref p] ∧ SqL K H p (bs.map V.bl) ∧ Q (.bl (bs.all id)) H
def rAny (K : PySem.W.Frag) : List V → Hp → VK → Prop := fun xs H Q => ∃ (p : Addr) (bs : List Bool), xs = [.ref p] ∧ SqL K H p (bs.map V.bl) ∧ Q (.bl (bs.any id)) H
def rSum (K : PySem.W.Frag) : List V → Hp → VK → Prop := fun xs H Q => ∃ (p : Addr) (ns : List Int), xs = [.ref p] ∧ SqL K H p (ns.map V.int) ∧ Q (.int ns.sum) H
section
variable {X : Cx}
theorem val_int {ns : List Int} {its : List Value} {i : Nat} {v : Value} (r : Vals (ns.map V.int) its) (e : its.toArray[i]? = some v) : ∃ t, v = .int (ns.getD i 0) t := by
  have l := r.length
  rw [List.length_map] at l
  have e' : its[i]? = some v := by simpa using e
  have hi : i < ns.length := by rw [l]; exact (List.getElem?_eq_some_iff.mp e').1
  obtain ⟨u, hu, ru⟩ := r.get (i := i) (x := .int ns[i]) (by rw [List.getElem?_map, List.getElem?_eq_getElem hi]; rfl)
  rw [e'] at hu
  cases hu
  obtain ⟨t, rfl⟩ := ru
  refine ⟨t, ?_⟩
  rw [List.getD_eq_getElem?_getD, List.getElem?_eq_getElem hi]
  rfl
theorem preSum_sum (ns : List Int) : ∀ k, k ≤ ns.length → preSum (fun i => ns.getD i 0) k = (ns.take k).sum
  | 0, _ => by simp [preSum]
  | k + 1, h => by
    rw [preSum, preSum_sum ns k (by omega), List.take_add_one, List.getElem?_eq_getElem (by omega), List.sum_append, List.getD_eq_getElem?_getD, List.getElem?_eq_getElem (by omega)]
    simp
theorem call_sum (hc : X.calm = true) : CallR X (.builtin "sum") (rSum X.K) := by
  intro pins s σ H xs us Q I r h
  obtain ⟨p, ns, rfl, hl, q⟩ := h
  obtain ⟨u, rfl, ru⟩ := r.one
  cases ru
  obtain ⟨its, rv, pl, _⟩ := I.list hl
  have l := rv.length
  rw [List.length_map] at l
  obtain ⟨o, n, e, _⟩ := id pl
  have hlt := Heap.lt_size e
  have hne : p ≠ s.heap.objs.size := Nat.ne_of_lt hlt
  refine call_sum_walkG (wpAny_pyIter_list pl.isList ?_)
  refine ⟨s.heap.objs.size, _, _, _, _, _, fun i => ns.getD i 0, rfl, Walks.list (A := X.A.in1) (I.ok.hd hc) _ p hne its.toArray, ⟨⟨_, Heap.get?_push_size _ rfl, rfl, rfl⟩, ?_⟩, fun b hb => ?_, fun i v hv => val_int rv hv, fun h' tk t' hk => ⟨.int _, H, I.kept fun b u eb => ?_, ⟨t', rfl⟩, ?_⟩⟩
  · exact pl.isList.at fun o e => Heap.get?_push_of_some _ e
  · rw [Heap.size_push]
    rcases List.mem_cons.mp hb with z | z
    · rw [z]; exact Nat.lt_succ_self _
    · have z' : b = p := by simpa using z
      rw [z']; exact Nat.lt_succ_of_lt hlt
  · exact hk b u (fun z => Nat.ne_of_lt (Heap.lt_size eb) (by simpa using z)) (Heap.get?_push_of_some _ eb)
  · rw [List.size_toArray, ← l, preSum_sum _ _ (Nat.le_refl _), List.take_length]
    exact q
end
end L2

/-! Own rules beside the hand layer: zip of two lists, walked. Behind MyColl; imports PyProof.ZipIter, PyProof.Rows.ZipGen, PyProof.Rows.FactsT2. -/
namespace L2
open PySem PySem.Spec PyProof.Rows
/-! ### zip of two lists, walked -/
def Itz (K : PySem.W.Frag) (p q : Addr) : It where
  go := fun i H => ∃ xs ys a b, SqL K H p xs ∧ SqL K H q ys ∧ xs[i]? = some a ∧ ys[i]? = some b
  yld := fun i H x H' => ∃ t a b, x = .ref t ∧ H t = none ∧ H' = upd H t (.tup [a, b]) ∧ (∀ xs, SqL K H p xs → xs[i]? = some a) ∧ ∀ ys, SqL K H q ys → ys[i]? = some b
  stop := fun i H => ∃ xs ys, SqL K H p xs ∧ SqL K H q ys ∧ i = min xs.length ys.length
def tnZ (z TI TO i1 i2 p q : Addr) (i : Nat) (h : Heap) : Prop := IsZip h z TI TO .none ∧ IsPair h TI (.ref i1) (.ref i2) ∧ (∃ a b, IsPair h TO a b) ∧ h.IsListIter i1 p i ∧ h.IsListIter i2 q i
def iZip (K : PySem.W.Frag) (ta : TA) : TI := fun σ H R => ta σ H fun vs H1 => ∃ p q, vs = [.ref p, .ref q] ∧ (∃ xs, SqL K H1 p xs) ∧ (∃ ys, SqL K H1 q ys) ∧ R (Itz K p q) H1
end L2

/-! Own rules beside the hand layer: lists and tuples alike all the way down. Behind MyZip. -/
namespace L2
open PySem PySem.Spec PyProof.Rows
/-! ### things alike all the way down -/
inductive Tr where
  | int (i : Int)
  | bl (b : Bool)
  | str (x : Str)
  | non
  | lst (l : List Tr)
  | tup (l : List Tr)
/-- a value that shows this tree, of this depth at most -/
inductive Shows (K : PySem.W.Frag) (H : Hp) : Nat → Tr → V → Prop where
  | int {n : Nat} (i : Int) : Shows K H n (.int i) (.int i)
  | bl {n : Nat} (b : Bool) : Shows K H n (.bl b) (.bl b)
  | str {n : Nat} (x : Str) : Shows K H n (.str x) (.str x)
  | non {n : Nat} : Shows K H n .non .non
  | lst {n : Nat} {p : Addr} {xs : List V} {ts : List Tr} (h : SqL K H p xs) (l : xs.length = ts.length) (e : ∀ (i : Nat) x t, xs[i]? = some x → ts[i]? = some t → Shows K H n t x) : Shows K H (n + 1) (.lst ts) (.ref p)
  | tup {n : Nat} {p : Addr} {xs : List V} {ts : List Tr} (h : SqT K H p xs) (l : xs.length = ts.length) (e : ∀ (i : Nat) x t, xs[i]? = some x → ts[i]? = some t → Shows K H n t x) : Shows K H (n + 1) (.tup ts) (.ref p)
section
variable {X : Cx} {pins : List (Addr × Obj)} {σ : St} {H : Hp} {s : Shared}
theorem items_eq {A : Around} {n : Nat} {xs ys : List V} {ts : List Tr} {us vs : List Value} (lx : xs.length = ts.length) (ly : ys.length = ts.length) (r1 : Vals xs us) (r2 : Vals ys vs)
    (ih : ∀ (i : Nat) x t, xs[i]? = some x → ts[i]? = some t → ∀ y, Shows X.K H n t y → ∀ (u v : Value) (A : Around), RelV x u → RelV y v → A.units + n < cLine → SeqAt.EqAt A s u v true)
    (ey : ∀ (i : Nat) y t, ys[i]? = some y → ts[i]? = some t → Shows X.K H n t y) (hu : A.units + (n + 1) < cLine) :
    ∀ j (h1 : j < us.toArray.size) (h2 : j < vs.toArray.size), SeqAt.EqAt A.in1 s us.toArray[j] vs.toArray[j] true := by
  intro j h1 h2
  have k1 : j < xs.length := by rw [r1.length]; simpa using h1
  have k2 : j < ys.length := by rw [r2.length]; simpa using h2
  have k3 : j < ts.length := by omega
  obtain ⟨u, e1, ru⟩ := r1.get (List.getElem?_eq_getElem k1)
  obtain ⟨v, e2, rv⟩ := r2.get (List.getElem?_eq_getElem k2)
  have q1 : us.toArray[j] = u := by
    have := (List.getElem?_eq_some_iff.mp e1).2
    simpa using this
  have q2 : vs.toArray[j] = v := by
    have := (List.getElem?_eq_some_iff.mp e2).2
    simpa using this
  rw [q1, q2]
  exact ih j _ _ (List.getElem?_eq_getElem k1) (List.getElem?_eq_getElem k3) _ (ey j _ _ (List.getElem?_eq_getElem k2) (List.getElem?_eq_getElem k3)) u v A.in1 ru rv (by show A.units + 1 + n < cLine; omega)
theorem all_true (n : Nat) : (List.range n).all (fun _ => true) = true := by simp
theorem deep_eq (I : Inv X pins σ H s) {n : Nat} {t : Tr} {x : V} (hx : Shows X.K H n t x) : ∀ y, Shows X.K H n t y → ∀ (u v : Value) (A : Around), RelV x u → RelV y v → A.units + n < cLine → SeqAt.EqAt A s u v true := by
  induction hx with
  | int i =>
    intro y hy u v A ru rv hu
    cases hy
    obtain ⟨a, rfl⟩ := ru
    obtain ⟨b, rfl⟩ := rv
    have := SeqAt.EqAt.int_int (A := A) (s := s) i a i b
    rw [beq_self_eq_true] at this
    exact this
  | bl b =>
    intro y hy u v A ru rv hu
    cases hy
    cases ru
    cases rv
    exact SeqAt.EqAt.same _
  | str x =>
    intro y hy u v A ru rv hu
    cases hy
    obtain ⟨a, rfl⟩ := ru
    obtain ⟨b, rfl⟩ := rv
    have := SeqAt.EqAt.str_str (A := A) (s := s) x a x b
    rw [beq_self_eq_true] at this
    exact this
  | non =>
    intro y hy u v A ru rv hu
    cases hy
    cases ru
    cases rv
    exact SeqAt.EqAt.same _
  | @lst n p xs ts h l e ih =>
    intro y hy u v A ru rv hu
    cases hy with
    | @lst _ q ys _ h2 l2 e2 =>
      cases ru
      cases rv
      by_cases hpq : p = q
      · subst hpq
        exact SeqAt.EqAt.same _
      · obtain ⟨us, r1, p1, _⟩ := I.list h
        obtain ⟨vs, r2, p2, _⟩ := I.list h2
        have z := SeqAt.RcAt.lists (A := A) p1.isList p2.isList (by rw [List.size_toArray, List.size_toArray, ← r1.length, ← r2.length, l, l2]) (by omega) (e := fun _ => true) (items_eq l l2 r1 r2 ih e2 hu)
        rw [all_true] at z
        exact SeqAt.EqAt.of_refs hpq z
  | @tup n p xs ts h l e ih =>
    intro y hy u v A ru rv hu
    cases hy with
    | @tup _ q ys _ h2 l2 e2 =>
      cases ru
      cases rv
      by_cases hpq : p = q
      · subst hpq
        exact SeqAt.EqAt.same _
      · obtain ⟨us, r1, p1, _⟩ := I.tuple h
        obtain ⟨vs, r2, p2, _⟩ := I.tuple h2
        have z := SeqAt.RcAt.tuples (A := A) p1 p2 (by omega) (e := fun _ => true) (items_eq l l2 r1 r2 ih e2 hu)
        rw [all_true, List.size_toArray, List.size_toArray, ← r1.length, ← r2.length, l, l2, beq_self_eq_true, Bool.and_self] at z
        exact SeqAt.EqAt.of_refs hpq z
/-- two lists (or two tuples) that show one tree are alike -/
def rEqD (K : PySem.W.Frag) : R2 := fun x y H Q => ∃ n ts, n ≤ 60 ∧ (Shows K H (n + 1) (.lst ts) x ∧ Shows K H (n + 1) (.lst ts) y ∨ Shows K H (n + 1) (.tup ts) x ∧ Shows K H (n + 1) (.tup ts) y) ∧ Q (.bl true) H
def rNeD (K : PySem.W.Frag) : R2 := fun x y H Q => ∃ n ts, n ≤ 60 ∧ (Shows K H (n + 1) (.lst ts) x ∧ Shows K H (n + 1) (.lst ts) y ∨ Shows K H (n + 1) (.tup ts) x ∧ Shows K H (n + 1) (.tup ts) y) ∧ Q (.bl false) H
theorem op_eqD (hu : X.A.units + 64 < cLine) : OpR X (compareOp .Eq) (rEqD X.K) := by
  intro pins s σ H x y v u Q I rx ry h
  obtain ⟨n, ts, hn, h, q⟩ := h
  have hu' : X.A.units + (n + 1) < cLine := by omega
  rcases h with ⟨h1, h2⟩ | ⟨h1, h2⟩
  · cases h1 with
    | @lst _ p xs _ a1 a2 a3 =>
      cases h2 with
      | @lst _ p' ys _ b1 b2 b3 =>
        cases rx
        cases ry
        obtain ⟨us, r1, p1, _⟩ := I.list a1
        obtain ⟨vs, r2, p2, _⟩ := I.list b1
        have z := SeqAt.RcAt.lists (A := X.A) p1.isList p2.isList (by rw [List.size_toArray, List.size_toArray, ← r1.length, ← r2.length, a2, b2]) (by omega) (e := fun _ => true) (items_eq a2 b2 r1 r2 (fun i x t e1 e2 => deep_eq I (a3 i x t e1 e2)) b3 hu')
        rw [all_true] at z
        exact z X.prog X.w X.xe _ ⟨.bl true, H, I, rfl, q⟩
  · cases h1 with
    | @tup _ p xs _ a1 a2 a3 =>
      cases h2 with
      | @tup _ p' ys _ b1 b2 b3 =>
        cases rx
        cases ry
        obtain ⟨us, r1, p1, _⟩ := I.tuple a1
        obtain ⟨vs, r2, p2, _⟩ := I.tuple b1
        have z := SeqAt.RcAt.tuples (A := X.A) p1 p2 (by omega) (e := fun _ => true) (items_eq a2 b2 r1 r2 (fun i x t e1 e2 => deep_eq I (a3 i x t e1 e2)) b3 hu')
        rw [all_true, List.size_toArray, List.size_toArray, ← r1.length, ← r2.length, a2, b2, beq_self_eq_true, Bool.and_self] at z
        exact z X.prog X.w X.xe _ ⟨.bl true, H, I, rfl, q⟩
theorem op_neD (hu : X.A.units + 64 < cLine) : OpR X (compareOp .NotEq) (rNeD X.K) := by
  intro pins s σ H x y v u Q I rx ry h
  obtain ⟨n, ts, hn, h, q⟩ := h
  have hu' : X.A.units + (n + 1) < cLine := by omega
  rcases h with ⟨h1, h2⟩ | ⟨h1, h2⟩
  · cases h1 with
    | @lst _ p xs _ a1 a2 a3 =>
      cases h2 with
      | @lst _ p' ys _ b1 b2 b3 =>
        cases rx
        cases ry
        obtain ⟨us, r1, p1, _⟩ := I.list a1
        obtain ⟨vs, r2, p2, _⟩ := I.list b1
        have z := SeqAt.RcNeAt.lists (A := X.A) p1.isList p2.isList (by rw [List.size_toArray, List.size_toArray, ← r1.length, ← r2.length, a2, b2]) (by omega) (e := fun _ => true) (items_eq a2 b2 r1 r2 (fun i x t e1 e2 => deep_eq I (a3 i x t e1 e2)) b3 hu')
        rw [all_true] at z
        exact z X.prog X.w X.xe _ ⟨.bl false, H, I, rfl, q⟩
  · cases h1 with
    | @tup _ p xs _ a1 a2 a3 =>
      cases h2 with
      | @tup _ p' ys _ b1 b2 b3 =>
        cases rx
        cases ry
        obtain ⟨us, r1, p1, _⟩ := I.tuple a1
        obtain ⟨vs, r2, p2, _⟩ := I.tuple b1
        have z := SeqAt.RcNeAt.tuples (A := X.A) p1 p2 (by omega) (e := fun _ => true) (items_eq a2 b2 r1 r2 (fun i x t e1 e2 => deep_eq I (a3 i x t e1 e2)) b3 hu')
        rw [all_true, List.size_toArray, List.size_toArray, ← r1.length, ← r2.length, a2, b2, beq_self_eq_true, Bool.and_self] at z
        exact z X.prog X.w X.xe _ ⟨.bl false, H, I, rfl, q⟩
end
end L2

/-! Own rules beside the hand layer: a list unpacked into names. Behind MyDeep. -/
namespace L2
open PySem PySem.Spec PyProof.Rows
/-! ### a, b = a list of that length -/
theorem draw_lst {P : Program} {w : World} {A : Around} {E : Value → Shared → Prop} {I ax : Addr} {items : Array Value} (hh : A.handled = none) (hne : ax ≠ I) : ∀ (k i : Nat) (s : Shared) (Q : List Value → Shared → Prop), s.heap.IsListIter I ax i → s.heap.IsList ax items → i + k ≤ items.size →
    (∀ h' tk, h'.IsListIter I ax (i + k) → h'.IsList ax items → (∀ b o, b ≠ I → s.heap.get? b = some o → h'.get? b = some o) → Q ((items.toList.drop i).take k) { s with heap := h', toks := tk }) → wpAny (model P w) A (draw (.ref I) k) Q E s
  | 0, i, s, Q, hit, hl, _, hQ => by
    refine wpAny_pure (a := []) ?_
    have := hQ s.heap s.toks hit hl fun _ _ _ e => e
    simpa using this
  | k + 1, i, s, Q, hit, hl, hle, hQ => by
    have hi : i < items.size := by omega
    refine wpAny_bind (m := pyNext (.ref I)) ((Walks.list (A := A) hh I ax hne items).item i s _ _ hi ⟨hit, hl⟩ fun v h1 tk1 hv st kk => ?_)
    refine wpAny_bind (wpAny_holding (draw_lst hh hne k (i + 1) _ _ st.1 st.2 (by omega) fun h2 tk2 hit2 hl2 kk2 => wpAny_pure ?_))
    have hv' : items[i] = v := by
      have := (Array.getElem?_eq_some_iff.mp hv).2
      exact this
    have hd : items.toList.drop i = v :: items.toList.drop (i + 1) := by
      rw [← hv', List.drop_eq_getElem_cons (by simpa using hi)]
      simp
    have := hQ h2 tk2 (by rw [show i + (k + 1) = i + 1 + k by omega]; exact hit2) hl2 fun b o hb e => kk2 b o hb (kk b o (by simpa using hb) e)
    rw [hd, List.take_succ_cons] at this
    exact this
theorem unpack_lst {P : Program} {w : World} {A : Around} {E : Value → Shared → Prop} {s : Shared} {t : Addr} {items : Array Value} {Q : List Value → Shared → Prop} (hh : A.handled = none) (ht : s.heap.IsList t items)
    (hQ : ∀ h' tk, (∀ b o, s.heap.get? b = some o → h'.get? b = some o) → Q items.toList { s with heap := h', toks := tk }) : wpAny (model P w) A (unpackItems (.ref t) items.size none) Q E s := by
  obtain ⟨o, ho, hcl, hdt⟩ := id ht
  have hne : t ≠ s.heap.objs.size := Nat.ne_of_lt (Heap.lt_size ho)
  have ty : s.TypeIs (.ref t) "list" := ⟨o, ho, hcl⟩
  unfold unpackItems notIterableAtAll
  refine wpAny_bind (wpAny_bind (wpAny_specialOf ty F.slot_list_iter.lookup (wpAny_pure ?_)))
  simp only [Bool.false_eq_true, if_false]
  refine wpAny_bind (wpAny_holding (wpAny_pyIter_list ht ?_))
  have ht1 : (s.heap.push { cls := .type "list_iterator", data := .fields #[.ref t, .int 0 0] }).IsList t items := ht.at fun o e => Heap.get?_push_of_some _ e
  refine wpAny_bind (wpAny_holding (draw_lst hh hne items.size 0 _ _ ⟨_, Heap.get?_push_size _ rfl, rfl, rfl⟩ ht1 (by omega) fun h1 tk1 hit1 hl1 kk1 => ?_))
  have hall : List.take items.size (List.drop 0 items.toList) = items.toList := by
    rw [List.drop_zero]
    exact List.take_of_length_le (by simp)
  rw [hall, if_neg (by simp)]
  rw [Nat.zero_add] at hit1
  refine wpAny_bind (wpAny_holding ((Walks.list (A := A) hh _ t hne items).done _ _ _ ⟨hit1, hl1⟩ fun h2 tk2 kk2 => ?_))
  simp only [Option.isSome_none, Bool.false_eq_true, if_false]
  refine wpAny_pure (hQ h2 tk2 fun b o e => kk2 b o (fun z => Nat.ne_of_lt (Heap.lt_size e) (by simpa using z)) (kk1 b o (Nat.ne_of_lt (Heap.lt_size e)) (Heap.get?_push_of_some _ e)))
def gLst (K : PySem.W.Frag) (n : Nat) (t : TGs) : TG := fun v σ H Q => ∃ a xs, v = .ref a ∧ SqL K H a xs ∧ xs.length = n ∧ t xs σ H Q
theorem pg_lst {X : Cx} {pos : Pos} {es : List Expr} {k : Nat} {t : TGs} {n : Nat} (hc : X.calm = true) (h : PGs X es t)
    (hn : (assignEach es X.env).length = n := by rfl) (hst : (assignEach es X.env).findIdx? (·.1) = none := by rfl) : PG X (.Tuple es k pos) (gLst X.K n t) := by
  intro pins s σ H v u Q I r hw
  obtain ⟨a, xs, e1, hq, hl, hw⟩ := hw
  subst e1
  cases r
  obtain ⟨its, rv, pl, hz⟩ := I.list hq
  rw [assign_Tuple]
  refine wpAny_bind (wpAny_standAt ?_)
  unfold unpack
  have e : (assignEach es X.env).length = its.toArray.size := by rw [hn, List.size_toArray, ← rv.length, hl]
  rw [e, hst]
  refine wpAny_bind (wpAny_holding (unpack_lst (I.ok.hd hc) pl.isList fun h' tk hk => ?_))
  exact h pins _ σ H xs _ Q (I.kept hk) (by simpa using rv) hw
end L2

/-! Own rules beside the hand layer: a list held against the empty list. Behind MyUnp. -/
namespace L2
open PySem PySem.Spec PyProof.Rows
/-- xs == [] -/
def rEqE (K : PySem.W.Frag) : R2 := fun x y H Q => ∃ a b xs, x = .ref a ∧ y = .ref b ∧ SqL K H a xs ∧ SqL K H b [] ∧ Q (.bl xs.isEmpty) H
section
variable {X : Cx}
theorem op_eqE (hu : X.A.units + 64 < cLine) : OpR X (compareOp .Eq) (rEqE X.K) := by
  intro pins s σ H x y v u Q I rx ry h
  obtain ⟨a, b, xs, rfl, rfl, ha, hb, q⟩ := h
  cases rx
  cases ry
  obtain ⟨us, r1, p1, _⟩ := I.list ha
  obtain ⟨vs, r2, p2, _⟩ := I.list hb
  cases r2
  cases xs with
  | nil =>
    cases r1
    have z := SeqAt.RcAt.lists (A := X.A) p1.isList p2.isList rfl (by omega) (e := fun _ => true) (fun j h1 h2 => absurd h1 (Nat.not_lt_zero _))
    exact z X.prog X.w X.xe _ ⟨.bl true, H, I, rfl, q⟩
  | cons y ys =>
    have z := SeqAt.RcAt.lists_lengths (A := X.A) p1.isList p2.isList (by rw [List.size_toArray, List.size_toArray, ← r1.length]; rfl) (by omega)
    exact z X.prog X.w X.xe _ ⟨.bl false, H, I, rfl, q⟩
end
/-! ### comprehensions and loops over zip, folded -/
def CompIt (J : It) (g : TG) (tt : TT) (te : TE) (D : Addr) (Q : VK) (σ : St) (H : Hp) : Prop := ∃ W : Nat → Nat → St → Hp → Prop, (∃ m, W 0 m σ H) ∧ ∀ i m σc Hc, W i m σc Hc →
  (J.stop i Hc ∧ Q (.ref D) Hc) ∨ (J.go i Hc ∧ ∃ N : St → Hp → Prop, (∀ σ' H', N σ' H' → ∃ m', m' < m ∧ W (i + 1) m' σ' H') ∧ ∀ x H', J.yld i Hc x H' → g x σc H' fun σ2 H2 => tt σ2 H2 fun b H3 => if b = true then te σ2 H3 fun y H4 => rAppend (.ref D) [y] H4 fun _ H5 => N σ2 H5 else N σ2 H3)
theorem tComp_eq {wi : TI} {g : TG} {tt : TT} {te : TE} {cap : List (Option Nat)} {σ : St} {H : Hp} {Q : VK} : tComp wi g tt te cap σ H Q = wi σ H fun J H1 => ∀ D, H1 D = none → CompIt J g tt te D Q (capS cap σ) (upd H1 D (.lst [])) := rfl
theorem comp_listF {K : PySem.W.Frag} {a : Addr} {xs : List V} {g : TG} {tt : TT} {te : TE} {σ : St} {H : Hp} {D : Addr} {Q : VK} (Pv : Nat → List V → St → Hp → Prop) (h0 : Pv 0 [] σ (upd H D (.lst []))) (hl : ∀ i ys σ H, i ≤ xs.length → Pv i ys σ H → SqL K H a xs)
    (hs : ∀ i x ys σ H, xs[i]? = some x → H D = some (.lst ys) → Pv i ys σ H → g x σ H fun σ2 H2 => tt σ2 H2 fun b H3 => if b = true then te σ2 H3 fun y H4 => rAppend (.ref D) [y] H4 fun _ H5 => ∃ ys, H5 D = some (.lst ys) ∧ Pv (i + 1) ys σ2 H5 else ∃ ys, H3 D = some (.lst ys) ∧ Pv (i + 1) ys σ2 H3)
    (hd : ∀ ys σ H, H D = some (.lst ys) → Pv xs.length ys σ H → Q (.ref D) H) : CompIt (Itl K a) g tt te D Q σ (upd H D (.lst [])) := comp_list Pv h0 hl hs hd
theorem comp_rangeF {lo : Int} {n : Nat} {g : TG} {tt : TT} {te : TE} {σ : St} {H : Hp} {D : Addr} {Q : VK} (Pv : Nat → List V → St → Hp → Prop) (h0 : Pv 0 [] σ (upd H D (.lst [])))
    (hs : ∀ i ys σ H, i < n → H D = some (.lst ys) → Pv i ys σ H → g (.int (lo + i)) σ H fun σ2 H2 => tt σ2 H2 fun b H3 => if b = true then te σ2 H3 fun y H4 => rAppend (.ref D) [y] H4 fun _ H5 => ∃ ys, H5 D = some (.lst ys) ∧ Pv (i + 1) ys σ2 H5 else ∃ ys, H3 D = some (.lst ys) ∧ Pv (i + 1) ys σ2 H3)
    (hd : ∀ ys σ H, H D = some (.lst ys) → Pv n ys σ H → Q (.ref D) H) : CompIt (Itr lo n) g tt te D Q σ (upd H D (.lst [])) := comp_range Pv h0 hs hd
end L2

/-! Own rules beside the hand layer: zip of three lists. Behind MyMore; needs PyProof.ZipIter. -/
/-! zip of three lists: low part -/
namespace My3
open PySem
abbrev IsTrip (h : Heap) (T : Addr) (a b c : Value) : Prop := h.get? T = some { cls := .type "tuple", data := .seq #[a, b, c] }
structure Apart3 (z TI TO i1 i2 i3 l1 l2 l3 : Addr) : Prop where
  a1 : TI ≠ z
  a2 : TO ≠ z
  a3 : i1 ≠ z
  a4 : i2 ≠ z
  a5 : i3 ≠ z
  b0 : TI ≠ TO
  b1 : TI ≠ i1
  b2 : TI ≠ i2
  b3 : TI ≠ i3
  c1 : TO ≠ i1
  c2 : TO ≠ i2
  c3 : TO ≠ i3
  d12 : i1 ≠ i2
  d13 : i1 ≠ i3
  d23 : i2 ≠ i3
  e1 : ∀ b ∈ [z, TO, i1, i2, i3], l1 ≠ b
  e2 : ∀ b ∈ [z, TO, i1, i2, i3], l2 ≠ b
  e3 : ∀ b ∈ [z, TO, i1, i2, i3], l3 ≠ b
section
variable {P : Program} {w : World} {A : Around} {E : Value → Shared → Prop} {s : Shared}
/-! making it -/
abbrev it0 (l : Addr) : Obj := { cls := .type "list_iterator", data := .fields #[.ref l, .int 0 0] }
abbrev zh1 (h : Heap) (l1 : Addr) : Heap := h.push (it0 l1)
abbrev zh2 (h : Heap) (l1 l2 : Addr) : Heap := (zh1 h l1).push (it0 l2)
abbrev zh3 (h : Heap) (l1 l2 l3 : Addr) : Heap := (zh2 h l1 l2).push (it0 l3)
abbrev zh4 (h : Heap) (l1 l2 l3 : Addr) : Heap := (zh3 h l1 l2 l3).push { cls := .type "tuple", data := .seq #[.ref h.objs.size, .ref (zh1 h l1).objs.size, .ref (zh2 h l1 l2).objs.size] }
abbrev zh5 (h : Heap) (l1 l2 l3 : Addr) : Heap := (zh4 h l1 l2 l3).push { cls := .type "tuple", data := .seq #[.none, .none, .none] }
abbrev zh6 (h : Heap) (l1 l2 l3 : Addr) : Heap := (zh5 h l1 l2 l3).push { cls := .type "zip", data := .fields #[.none, .bool false, .bool false, .ref (zh3 h l1 l2 l3).objs.size, .ref (zh4 h l1 l2 l3).objs.size] }
end
end My3
namespace L2
open PySem PySem.Spec PyProof.Rows My3
/-! ### zip of three lists, walked; the first is the shortest -/
def Itz3 (K : PySem.W.Frag) (p q r : Addr) : It where
  go := fun i H => ∃ xs ys zs a b c, SqL K H p xs ∧ SqL K H q ys ∧ SqL K H r zs ∧ xs[i]? = some a ∧ ys[i]? = some b ∧ zs[i]? = some c
  yld := fun i H x H' => ∃ t a b c, x = .ref t ∧ H t = none ∧ H' = upd H t (.tup [a, b, c]) ∧ (∀ xs, SqL K H p xs → xs[i]? = some a) ∧ (∀ ys, SqL K H q ys → ys[i]? = some b) ∧ ∀ zs, SqL K H r zs → zs[i]? = some c
  stop := fun i H => ∃ xs, SqL K H p xs ∧ i = xs.length
def tn3 (z TI TO i1 i2 i3 p q r : Addr) (i : Nat) (h : Heap) : Prop := IsZip h z TI TO .none ∧ IsTrip h TI (.ref i1) (.ref i2) (.ref i3) ∧ (∃ a b c, IsTrip h TO a b c) ∧ h.IsListIter i1 p i ∧ h.IsListIter i2 q i ∧ h.IsListIter i3 r i
def iZip3 (K : PySem.W.Frag) (ta : TA) : TI := fun σ H R => ta σ H fun vs H1 => ∃ p q r, vs = [.ref p, .ref q, .ref r] ∧ (∃ xs, SqL K H1 p xs) ∧ (∃ ys, SqL K H1 q ys) ∧ (∃ zs, SqL K H1 r zs) ∧ R (Itz3 K p q r) H1
end L2

/-! Own rules beside the hand layer: insert, max and min of a list of numbers. Behind MyZip3; needs PyProof.WalkInts, PyProof.SeqI3, PyProof.AutoSeq1. -/
namespace L2
open PySem PySem.Spec PyProof.Rows
section
variable {X : Cx}
def rInsert : V → List V → Hp → VK → Prop := fun x vs H Q => ∃ l xs k y, x = .ref l ∧ vs = [.int k, y] ∧ H l = some (.lst xs) ∧ 0 ≤ k ∧ k ≤ (xs.length : Int) ∧ xs.length < 1000000 ∧ Q .non (upd H l (.lst (xs.take k.toNat ++ y :: xs.drop k.toNat)))
def rMaxL (K : PySem.W.Frag) : List V → Hp → VK → Prop := fun xs H Q => ∃ (p : Addr) (ns : List Int), xs = [.ref p] ∧ SqL K H p (ns.map V.int) ∧ 0 < ns.length ∧ ∀ m, m ∈ ns → (∀ a ∈ ns, a ≤ m) → Q (.int m) H
def rMinL (K : PySem.W.Frag) : List V → Hp → VK → Prop := fun xs H Q => ∃ (p : Addr) (ns : List Int), xs = [.ref p] ∧ SqL K H p (ns.map V.int) ∧ 0 < ns.length ∧ ∀ m, m ∈ ns → (∀ a ∈ ns, m ≤ a) → Q (.int m) H
end
end L2

/-! Own rules beside the hand layer: xs[::-1]. Behind MyMeth; needs KE.KRevSl. -/
namespace L2
open PySem PySem.Spec PyProof.Rows
/-- xs[::-1] -/
def tRev (K : PySem.W.Frag) (te : TE) (tk : TO) : TE := fun σ H Q => te σ H fun x H1 => tk σ H1 fun k H2 => k = some (-1) ∧ ∃ a xs, x = .ref a ∧ SqL K H2 a xs ∧ ∀ p, H2 p = none → Q (.ref p) (upd H2 p (.lst xs.reverse))
section
variable {X : Cx} {e : Expr} {te : TE} {st : Expr} {tk : TO} {p2 pos : Pos}
end
end L2

/-! Own rules beside the hand layer: isinstance(e, (A, B, ..)) of a caught exception. Behind MyRev. -/
namespace L2
open PySem PySem.Spec PyProof.Rows
/-- the classes of a tuple -/
def clsVs : List V → Option (List Value)
  | [] => some []
  | v :: vs => (clsV v).bind fun c => (clsVs vs).map fun cs => c :: cs
theorem clsVs_rel : ∀ {vs : List V} {us cs : List Value}, Vals vs us → clsVs vs = some cs → us = cs
  | [], _, cs, .nil, h => by cases h; rfl
  | v :: vs, _, cs, .cons r t, h => by
    unfold clsVs at h
    obtain ⟨c, h1, h2⟩ := Option.bind_eq_some_iff.mp h
    obtain ⟨ds, h3, rfl⟩ := Option.map_eq_some_iff.mp h2
    rw [clsV_rel r h1, clsVs_rel t h3]
def rIsiT (K : PySem.W.Frag) : List V → Hp → VK → Prop := fun xs H Q => ∃ (a tp : Addr) (cs : List V) (c : Value) (cvs : List Value) (b : Bool), xs = [.ref a, .ref tp] ∧ H a = some (excO a c) ∧ ExcCls K c ∧ SqT K H tp cs ∧ clsVs cs = some cvs ∧ PySem.W.kitAny K c cvs = some b ∧ Q (.bl b) H
section
variable {X : Cx}
theorem call_isiT : CallR X (.builtin "isinstance") (rIsiT X.K) := by
  intro pins s σ H xs us Q I r h
  obtain ⟨a, tp, cs, c, cvs, b, rfl, ha, k, ht, hc, e, q⟩ := h
  obtain ⟨u, w', rfl, rx, rw'⟩ := vals2 r
  cases rx
  cases rw'
  obtain ⟨p, _, _⟩ := (show ObjOk X.prog X.w H s.heap a (excO a c) from I.hok a _ ha)
  obtain ⟨ws, rv, ⟨⟨cls, dd, data, sl⟩, e1, e2, n, e3⟩, _⟩ := I.tuple ht
  obtain rfl := clsVs_rel rv hc
  simp only at e2 e3
  subst e2 e3
  exact PySem.W.kia_tup (k.kit a) I.kIn p e1 e (fun z => nomatch z) fun tk => ⟨.bl b, H, I.tok tk, rfl, q⟩
end
end L2

set_option maxHeartbeats 4000000
namespace My
open PySem L2
def top (i : Nat) : Stmt := PySem.Challenge.pw_hideworth_k77_plays_refused.main.body.getD i (.Pass ⟨0, 0, 0, 0⟩)
abbrev s_is_whole : Stmt := top 21
abbrev s_whole_of : Stmt := top 23
abbrev s_played : Stmt := top 24
abbrev s__law_purse : Stmt := top 26
abbrev s__law_draw : Stmt := top 27
abbrev s__law_plan_of : Stmt := top 28
abbrev s__law_paper : Stmt := top 29
abbrev s__law_copy : Stmt := top 30
abbrev s__law_refused : Stmt := top 31
abbrev s_law : Stmt := top 32

structure Ad where
  f_is_whole : Addr
  d_is_whole : FuncData
  f_whole_of : Addr
  d_whole_of : FuncData
  f_played : Addr
  d_played : FuncData
  f__law_purse : Addr
  d__law_purse : FuncData
  f__law_draw : Addr
  d__law_draw : FuncData
  f__law_plan_of : Addr
  d__law_plan_of : FuncData
  f__law_paper : Addr
  d__law_paper : FuncData
  f__law_copy : Addr
  d__law_copy : FuncData
  f__law_refused : Addr
  d__law_refused : FuncData
  f_law : Addr
  d_law : FuncData
  c_HideError : Addr
  c_NoWeb : Addr
  c_NoPlan : Addr
  c_NoText : Addr
  c_NoKind : Addr
  c_TooGreat : Addr
  c_NoTree : Addr
  c_NoWeights : Addr
  c_NoTurns : Addr
  c_NoNumber : Addr
  c_NoBoxes : Addr
  c_NoBudget : Addr
  c_NoName : Addr
  c_NoOrder : Addr
  c_NoPlay : Addr
  c_NoRoad : Addr
  c_NoRow : Addr
  c_NoTable : Addr
  c_NoPaper : Addr

/-- which classes the refusal is one of -/
structure Isa (K : PySem.W.Frag) (a : Ad) : Prop where
  k_NoWeb : PySem.W.kitOne K (.ref a.c_NoPlay) (.ref a.c_NoWeb) = some false
  k_NoPlan : PySem.W.kitOne K (.ref a.c_NoPlay) (.ref a.c_NoPlan) = some false
  k_NoText : PySem.W.kitOne K (.ref a.c_NoPlay) (.ref a.c_NoText) = some false
  k_NoKind : PySem.W.kitOne K (.ref a.c_NoPlay) (.ref a.c_NoKind) = some false
  k_TooGreat : PySem.W.kitOne K (.ref a.c_NoPlay) (.ref a.c_TooGreat) = some false
  k_NoTree : PySem.W.kitOne K (.ref a.c_NoPlay) (.ref a.c_NoTree) = some false
  k_NoWeights : PySem.W.kitOne K (.ref a.c_NoPlay) (.ref a.c_NoWeights) = some false
  k_NoTurns : PySem.W.kitOne K (.ref a.c_NoPlay) (.ref a.c_NoTurns) = some false
  k_NoNumber : PySem.W.kitOne K (.ref a.c_NoPlay) (.ref a.c_NoNumber) = some false
  k_NoBoxes : PySem.W.kitOne K (.ref a.c_NoPlay) (.ref a.c_NoBoxes) = some false
  k_NoBudget : PySem.W.kitOne K (.ref a.c_NoPlay) (.ref a.c_NoBudget) = some false
  k_NoName : PySem.W.kitOne K (.ref a.c_NoPlay) (.ref a.c_NoName) = some false
  k_NoOrder : PySem.W.kitOne K (.ref a.c_NoPlay) (.ref a.c_NoOrder) = some false
  k_NoPlay : PySem.W.kitOne K (.ref a.c_NoPlay) (.ref a.c_NoPlay) = some true
  k_NoRoad : PySem.W.kitOne K (.ref a.c_NoPlay) (.ref a.c_NoRoad) = some false
  k_NoRow : PySem.W.kitOne K (.ref a.c_NoPlay) (.ref a.c_NoRow) = some false
  k_NoTable : PySem.W.kitOne K (.ref a.c_NoPlay) (.ref a.c_NoTable) = some false
  k_NoPaper : PySem.W.kitOne K (.ref a.c_NoPlay) (.ref a.c_NoPaper) = some false
  k_ValueError : PySem.W.kitOne K (.ref a.c_NoPlay) (.type "ValueError") = some true
  sub : PySem.W.subIn K (.ref a.c_NoPlay) (.ref a.c_HideError) = some true
  ec : ExcCls K (.ref a.c_NoPlay)

structure Txt (K : PySem.W.Frag) (mg : Str → Option Value) (a : Ad) : Prop where
  F_is_whole : Fun K "is_whole" "is_whole" s_is_whole a.f_is_whole a.d_is_whole
  b_is_whole : Binds K a.d_is_whole ["thing"] []
  m_is_whole : mg "is_whole" = some (.ref a.f_is_whole)
  F_whole_of : Fun K "whole_of" "whole_of" s_whole_of a.f_whole_of a.d_whole_of
  b_whole_of : Binds K a.d_whole_of ["paper"] []
  m_whole_of : mg "whole_of" = some (.ref a.f_whole_of)
  F_played : Fun K "played" "played" s_played a.f_played a.d_played
  b_played : Binds K a.d_played ["paper", "number"] []
  m_played : mg "played" = some (.ref a.f_played)
  F__law_purse : Fun K "_law_purse" "_law_purse" s__law_purse a.f__law_purse a.d__law_purse
  b__law_purse : Binds K a.d__law_purse ["_law_script"] []
  m__law_purse : mg "_law_purse" = some (.ref a.f__law_purse)
  F__law_draw : Fun K "_law_draw" "_law_draw" s__law_draw a.f__law_draw a.d__law_draw
  b__law_draw : Binds K a.d__law_draw ["_law_purse_here", "_law_out_of"] []
  m__law_draw : mg "_law_draw" = some (.ref a.f__law_draw)
  F__law_plan_of : Fun K "_law_plan_of" "_law_plan_of" s__law_plan_of a.f__law_plan_of a.d__law_plan_of
  b__law_plan_of : Binds K a.d__law_plan_of ["_law_purse_here"] []
  m__law_plan_of : mg "_law_plan_of" = some (.ref a.f__law_plan_of)
  F__law_paper : Fun K "_law_paper" "_law_paper" s__law_paper a.f__law_paper a.d__law_paper
  b__law_paper : Binds K a.d__law_paper ["_law_purse_here"] []
  m__law_paper : mg "_law_paper" = some (.ref a.f__law_paper)
  F__law_copy : Fun K "_law_copy" "_law_copy" s__law_copy a.f__law_copy a.d__law_copy
  b__law_copy : Binds K a.d__law_copy ["_law_paper_here"] []
  m__law_copy : mg "_law_copy" = some (.ref a.f__law_copy)
  F__law_refused : Fun K "_law_refused" "_law_refused" s__law_refused a.f__law_refused a.d__law_refused
  b__law_refused : Binds K a.d__law_refused ["_law_paper_here", "_law_number"] []
  m__law_refused : mg "_law_refused" = some (.ref a.f__law_refused)
  F_law : Fun K "law" "law" s_law a.f_law a.d_law
  b_law : Binds K a.d_law ["_law_script"] []
  m_law : mg "law" = some (.ref a.f_law)
  z_sum : mg "sum" = none
  z_list : mg "list" = none
  z_range : mg "range" = none
  z_len : mg "len" = none
  z_isinstance : mg "isinstance" = none
  z_int : mg "int" = none
  z_bool : mg "bool" = none
  z_ValueError : mg "ValueError" = none
  m_HideError : mg "HideError" = some (.ref a.c_HideError)
  m_NoWeb : mg "NoWeb" = some (.ref a.c_NoWeb)
  m_NoPlan : mg "NoPlan" = some (.ref a.c_NoPlan)
  m_NoText : mg "NoText" = some (.ref a.c_NoText)
  m_NoKind : mg "NoKind" = some (.ref a.c_NoKind)
  m_TooGreat : mg "TooGreat" = some (.ref a.c_TooGreat)
  m_NoTree : mg "NoTree" = some (.ref a.c_NoTree)
  m_NoWeights : mg "NoWeights" = some (.ref a.c_NoWeights)
  m_NoTurns : mg "NoTurns" = some (.ref a.c_NoTurns)
  m_NoNumber : mg "NoNumber" = some (.ref a.c_NoNumber)
  m_NoBoxes : mg "NoBoxes" = some (.ref a.c_NoBoxes)
  m_NoBudget : mg "NoBudget" = some (.ref a.c_NoBudget)
  m_NoName : mg "NoName" = some (.ref a.c_NoName)
  m_NoOrder : mg "NoOrder" = some (.ref a.c_NoOrder)
  m_NoPlay : mg "NoPlay" = some (.ref a.c_NoPlay)
  m_NoRoad : mg "NoRoad" = some (.ref a.c_NoRoad)
  m_NoRow : mg "NoRow" = some (.ref a.c_NoRow)
  m_NoTable : mg "NoTable" = some (.ref a.c_NoTable)
  m_NoPaper : mg "NoPaper" = some (.ref a.c_NoPaper)
  x_HideError : PySem.W.excIn K a.c_HideError veMro "ValueError.__new__" = true
  x_NoPlay : PySem.W.excIn K a.c_NoPlay veMro "ValueError.__new__" = true
  I : Isa K a

/-- below a power of two in size -/
def Bd (m : Nat) (x : Int) : Prop := x.natAbs < 2 ^ m
theorem Bd.mono {m n : Nat} {x : Int} (h : Bd m x) (l : m ≤ n) : Bd n x := Nat.lt_of_lt_of_le h (Nat.pow_le_pow_right (by decide) l)
theorem Bd.mul {m n : Nat} {x y : Int} (hx : Bd m x) (hy : Bd n y) : Bd (m + n) (x * y) := by
  unfold Bd at *
  rw [Int.natAbs_mul, Nat.pow_add]
  exact Nat.mul_lt_mul'' hx hy
theorem Bd.add {m : Nat} {x y : Int} (hx : Bd m x) (hy : Bd m y) : Bd (m + 1) (x + y) := by
  unfold Bd at *
  rw [Nat.pow_succ]
  generalize 2 ^ m = k at *
  omega
theorem Bd.sub {m : Nat} {x y : Int} (hx : Bd m x) (hy : Bd m y) : Bd (m + 1) (x - y) := by
  unfold Bd at *
  rw [Nat.pow_succ]
  generalize 2 ^ m = k at *
  omega
theorem Bd.le {m : Nat} {x y : Int} (hy : Bd m y) (h : x.natAbs ≤ y.natAbs) : Bd m x := Nat.lt_of_le_of_lt h hy
theorem bd_thirty {r : Int} (h1 : -1000000000000000000000000000000 ≤ r) (h2 : r ≤ 1000000000000000000000000000000) : Bd 100 r := by
  unfold Bd
  omega
def sg (t b : Int) : Int := if b < 0 then -(Int.gcd t b : Int) else (Int.gcd t b : Int)
def low1 (t b : Int) : Int := t.fdiv (sg t b)
def low2 (t b : Int) : Int := b.fdiv (sg t b)
theorem gcd_ne {t b : Int} (h : b ≠ 0) : Int.gcd t b ≠ 0 := fun e => h (Int.gcd_eq_zero_iff.mp e).2
theorem sg_ne {t b : Int} (h : b ≠ 0) : sg t b ≠ 0 := by
  have := gcd_ne (t := t) h
  unfold sg
  split <;> omega
theorem sg_abs (t b : Int) : (sg t b).natAbs = Int.gcd t b := by
  unfold sg
  split <;> omega
theorem sg_dvd1 (t b : Int) : sg t b ∣ t := by
  unfold sg
  split
  · exact Int.neg_dvd.mpr (Int.gcd_dvd_left ..)
  · exact Int.gcd_dvd_left ..
theorem sg_dvd2 (t b : Int) : sg t b ∣ b := by
  unfold sg
  split
  · exact Int.neg_dvd.mpr (Int.gcd_dvd_right ..)
  · exact Int.gcd_dvd_right ..
theorem fdiv_exact {x g : Int} (h : g ∣ x) : x.fdiv g * g = x := by
  rw [Int.fdiv_eq_ediv_of_dvd h]
  exact Int.ediv_mul_cancel h
theorem low1_mul (t b : Int) : low1 t b * sg t b = t := fdiv_exact (sg_dvd1 t b)
theorem low2_mul (t b : Int) : low2 t b * sg t b = b := fdiv_exact (sg_dvd2 t b)
theorem sg_le {t b : Int} (h : b ≠ 0) : (sg t b).natAbs ≤ b.natAbs := by
  rw [sg_abs]
  exact Nat.le_of_dvd (by omega) (Int.natAbs_dvd_natAbs.mpr (Int.gcd_dvd_right t b))
theorem abs_of_mul {q g x : Int} (h : q * g = x) (hg : g ≠ 0) : q.natAbs ≤ x.natAbs := by
  rw [← h, Int.natAbs_mul]
  exact Nat.le_mul_of_pos_right _ (by omega)
theorem low1_le {t b : Int} (h : b ≠ 0) : (low1 t b).natAbs ≤ t.natAbs := abs_of_mul (low1_mul t b) (sg_ne h)
theorem low2_le {t b : Int} (h : b ≠ 0) : (low2 t b).natAbs ≤ b.natAbs := abs_of_mul (low2_mul t b) (sg_ne h)
theorem pos_of_mul {q g x : Int} (h : q * g = x) (s : (0 < x ∧ 0 < g) ∨ (x < 0 ∧ g < 0)) : 0 < q := by
  rcases s with ⟨a, c⟩ | ⟨a, c⟩
  · exact Int.pos_of_mul_pos_left (by rw [h]; exact a) c
  · by_cases z : 0 < q
    · exact z
    · have h1 : 0 ≤ (-q) * (-g) := Int.mul_nonneg (by omega) (by omega)
      rw [Int.neg_mul_neg, h] at h1
      omega
theorem low2_pos {t b : Int} (h : b ≠ 0) : 0 < low2 t b := by
  refine pos_of_mul (low2_mul t b) ?_
  have g := gcd_ne (t := t) h
  unfold sg
  split <;> omega
theorem low_gcd {t b : Int} (h : b ≠ 0) : Int.gcd (low1 t b) (low2 t b) = 1 := by
  have e : Int.gcd (low1 t b * sg t b) (low2 t b * sg t b) = Int.gcd (low1 t b) (low2 t b) * (sg t b).natAbs := Int.gcd_mul_right ..
  rw [low1_mul, low2_mul, sg_abs] at e
  exact Nat.eq_of_mul_eq_mul_right (Nat.pos_of_ne_zero (gcd_ne h)) (by rw [Nat.one_mul]; exact e.symm)
theorem low_zero {b : Int} (h : 0 < b) : low1 0 b = 0 ∧ low2 0 b = 1 := by
  have e : sg 0 b = b := by
    unfold sg
    rw [if_neg (by omega), Int.gcd_zero_left]
    omega
  unfold low1 low2
  rw [e]
  exact ⟨Int.zero_fdiv b, Int.fdiv_self (by omega)⟩
theorem low_is {t b : Int} (h : b ≠ 0) : (Rat.divInt t b).num = low1 t b ∧ ((Rat.divInt t b).den : Int) = low2 t b := by
  have p := low2_pos (t := t) h
  have g := low_gcd (t := t) h
  have e2 : ((low2 t b).toNat : Int) = low2 t b := by omega
  have nz : (low2 t b).toNat ≠ 0 := by omega
  have red : (low1 t b).natAbs.Coprime (low2 t b).toNat := by
    have e : (low2 t b).toNat = (low2 t b).natAbs := by omega
    rw [e]
    exact g
  have e : Rat.divInt t b = ⟨low1 t b, (low2 t b).toNat, nz, red⟩ := by
    rw [Rat.mk_eq_divInt, e2, Rat.divInt_eq_divInt_iff h (by omega)]
    have h1 := low1_mul t b
    have h2 := low2_mul t b
    generalize low1 t b = x at h1 ⊢
    generalize low2 t b = y at h2 ⊢
    rw [← h1, ← h2]
    grind
  rw [e]
  exact ⟨rfl, e2⟩
abbrev fr (q : Rat) : List L2.V := [.int q.num, .int (q.den : Int)]
abbrev nf (q : Rat) : List Int := [q.num, (q.den : Int)]
theorem den_ne (q : Rat) : (q.den : Int) ≠ 0 := by
  have := q.den_nz
  omega
theorem den_pos (q : Rat) : 0 < (q.den : Int) := by
  have := q.den_nz
  omega
theorem rat_add (p q : Rat) : Rat.divInt (p.num * q.den + q.num * p.den) (p.den * q.den) = p + q := by
  rw [← Rat.divInt_add_divInt _ _ (den_ne p) (den_ne q), Rat.num_divInt_den, Rat.num_divInt_den]
theorem rat_sub (p q : Rat) : Rat.divInt (p.num * q.den - q.num * p.den) (p.den * q.den) = p - q := by
  rw [← Rat.divInt_sub_divInt _ _ (den_ne p) (den_ne q), Rat.num_divInt_den, Rat.num_divInt_den]
theorem rat_mul (p q : Rat) : Rat.divInt (p.num * q.num) (p.den * q.den) = p * q := by
  rw [← Rat.divInt_mul_divInt, Rat.num_divInt_den, Rat.num_divInt_den]
theorem rat_div (p q : Rat) : Rat.divInt (p.num * q.den) (p.den * q.num) = p / q := by
  rw [← Rat.divInt_mul_divInt, Rat.num_divInt_den, ← Rat.inv_divInt, Rat.num_divInt_den, Rat.div_def]
theorem fr_eq {p q : Rat} : nf p = nf q ↔ p = q := by
  constructor
  · intro h
    injection h with h1 h2
    injection h2 with h2 _
    exact Rat.ext h1 (by omega)
  · rintro rfl
    rfl
/-- a fraction of numbers below 2 ^ n -/
structure Bq (n : Nat) (q : Rat) : Prop where
  top : Bd n q.num
  bot : Bd n (q.den : Int)
theorem Bq.mono {m n : Nat} {q : Rat} (h : Bq m q) (l : m ≤ n) : Bq n q := ⟨h.top.mono l, h.bot.mono l⟩
theorem bq_divInt {n : Nat} {t b : Int} (h : b ≠ 0) (ht : Bd n t) (hb : Bd n b) : Bq n (Rat.divInt t b) := by
  obtain ⟨e1, e2⟩ := low_is (t := t) h
  exact ⟨by rw [e1]; exact ht.le (low1_le h), by rw [e2]; exact hb.le (low2_le h)⟩
theorem Bq.add {n : Nat} {p q : Rat} (hp : Bq n p) (hq : Bq n q) : Bq (n + n + 1) (p + q) := by
  rw [← rat_add]
  exact bq_divInt (Int.mul_ne_zero (den_ne p) (den_ne q)) ((hp.top.mul hq.bot).add (hq.top.mul hp.bot)) ((hp.bot.mul hq.bot).mono (Nat.le_succ _))
theorem Bq.sub {n : Nat} {p q : Rat} (hp : Bq n p) (hq : Bq n q) : Bq (n + n + 1) (p - q) := by
  rw [← rat_sub]
  exact bq_divInt (Int.mul_ne_zero (den_ne p) (den_ne q)) ((hp.top.mul hq.bot).sub (hq.top.mul hp.bot)) ((hp.bot.mul hq.bot).mono (Nat.le_succ _))
theorem Bq.mul {n : Nat} {p q : Rat} (hp : Bq n p) (hq : Bq n q) : Bq (n + n) (p * q) := by
  rw [← rat_mul]
  exact bq_divInt (Int.mul_ne_zero (den_ne p) (den_ne q)) (hp.top.mul hq.top) (hp.bot.mul hq.bot)
theorem num_ne {q : Rat} (h : q ≠ 0) : q.num ≠ 0 := fun e => h (Rat.num_eq_zero.mp e)
theorem Bq.div {n : Nat} {p q : Rat} (hp : Bq n p) (hq : Bq n q) (h : q ≠ 0) : Bq (n + n) (p / q) := by
  rw [← rat_div]
  exact bq_divInt (Int.mul_ne_zero (den_ne p) (num_ne h)) (hp.top.mul hq.bot) (hp.bot.mul hq.top)
theorem gcd_step {x y : Int} (hx : 0 ≤ x) (hy : 0 < y) : Int.gcd y (x % y) = Int.gcd x y := by
  obtain ⟨m, rfl⟩ := Int.eq_ofNat_of_zero_le hx
  obtain ⟨n, rfl⟩ := Int.eq_ofNat_of_zero_le (Int.le_of_lt hy)
  rw [← Int.natCast_emod]
  show Nat.gcd n (m % n) = Nat.gcd m n
  rw [Nat.gcd_comm n, ← Nat.gcd_rec, Nat.gcd_comm]
theorem gcd_stepF {x y : Int} (hx : 0 ≤ x) (hy : 0 < y) : Int.gcd y (x.fmod y) = Int.gcd x y := by
  rw [Int.fmod_eq_emod_of_nonneg x (Int.le_of_lt hy)]
  exact gcd_step hx hy
theorem abs_if (i : Int) : (if i < 0 then -i else i) = (i.natAbs : Int) := by
  split <;> omega
theorem mod_gcd_left (a b : Int) : a % (Int.gcd a b : Int) = 0 := Int.emod_eq_zero_of_dvd (Int.gcd_dvd_left ..)
theorem mod_gcd_right (a b : Int) : b % (Int.gcd a b : Int) = 0 := Int.emod_eq_zero_of_dvd (Int.gcd_dvd_right ..)
theorem gcd_zero_r (u : Int) (h : 0 ≤ u) : ((Int.gcd u 0 : Nat) : Int) = u := by
  show ((Nat.gcd u.natAbs 0 : Nat) : Int) = u
  rw [Nat.gcd_zero_right]
  omega
theorem pow30 : CPow 10 30 := ⟨by decide, by decide, by decide⟩
theorem pow18 : CPow 10 18 := ⟨by decide, by decide, by decide⟩
theorem logA : (0 : Int) < 1000000000000000000 ∧ (Int.natAbs 1000000000000000000).log2 < 9000 := by decide +kernel
theorem logB : (0 : Int) < 2147483587 ∧ (Int.natAbs 2147483587).log2 < 9000 := by decide +kernel
theorem log8 : (0 : Int) < 8 ∧ (Int.natAbs 8).log2 < 9000 := by decide +kernel
def spGcd : Sp := fun vs H Q _ => ∃ a b : Int, vs = [.int a, .int b] ∧ Q (.int (Int.gcd a b : Nat)) H
def spWhole : Sp := fun vs H Q _ => ∃ a : Int, vs = [.int a] ∧ Q (.bl true) H
def spMixed (K : PySem.W.Frag) : Sp := fun vs H Q _ => ∃ (a : Addr) (ns : List Int) (k : Int), vs = [.ref a, .int k] ∧ SqL K H a (ns.map V.int) ∧ ns.length ≤ 63 ∧ 0 ≤ k ∧ k < 1000000 ∧ ∀ r : Int, 0 ≤ r → r < 2147483587 → Q (.int r) H
def spNumber (K : PySem.W.Frag) : Sp := fun vs H Q _ => ∃ (a : Addr) (ns : List Int) (k : Int), vs = [.ref a, .int k] ∧ SqL K H a (ns.map V.int) ∧ ns.length ≤ 63 ∧ 0 ≤ k ∧ k < 100000 ∧ ∀ (r : Int) (H' : Hp), Bd 100 r → Same H H' → Q (.int r) H'
def spLaw (K : PySem.W.Frag) : Sp := fun vs H Q _ => ∃ (a : Addr) (ns : List Int), vs = [.ref a] ∧ SqL K H a (ns.map V.int) ∧ ns.length ≤ 63 ∧ ∀ H', Q (.bl true) H'
/-- (cost, hits, of) -/
abbrev Box := Int × Int × Int
abbrev bx (b : Box) : List V := [.int b.1, .int b.2.1, .int b.2.2]
def GB (b : Box) : Prop := 1 ≤ b.1 ∧ b.1 ≤ 60 ∧ 1 ≤ b.2.1 ∧ b.2.1 ≤ b.2.2 ∧ b.2.2 ≤ 50
theorem map_at {α β : Type} {f : α → β} {l : List α} {i : Nat} {y : β} (h : (l.map f)[i]? = some y) : ∃ x, l[i]? = some x ∧ y = f x := by
  rw [List.getElem?_map] at h
  obtain ⟨x, h1, h2⟩ := Option.map_eq_some_iff.mp h
  exact ⟨x, h1, h2.symm⟩
/-- the tuples at these places -/
def Tps {α : Type} (f : α → List V) (H : Hp) (ts : List Addr) (bs : List α) : Prop := ts.length = bs.length ∧ ∀ (i : Nat) t b, ts[i]? = some t → bs[i]? = some b → H t = some (.tup (f b))
theorem Tps.same {α : Type} {f : α → List V} {H H' : Hp} {ts : List Addr} {bs : List α} (h : Tps f H ts bs) (s : Same H H') : Tps f H' ts bs := ⟨h.1, fun i t b e1 e2 => s _ _ (h.2 i t b e1 e2)⟩
theorem Tps.nil {α : Type} {f : α → List V} {H : Hp} : Tps f H [] ([] : List α) := ⟨rfl, fun i t b e => by simp at e⟩
theorem Tps.put {α : Type} {f : α → List V} {H H' : Hp} {ts : List Addr} {bs : List α} {t : Addr} {b : α} (h : Tps f H ts bs) (s : ∀ (x : Addr) (u : List V), H x = some (.tup u) → H' x = some (.tup u)) (e : H' t = some (.tup (f b))) : Tps f H' (ts ++ [t]) (bs ++ [b]) := by
  refine ⟨by rw [List.length_append, List.length_append, h.1]; rfl, fun i x y e1 e2 => ?_⟩
  by_cases c : i < ts.length
  · rw [List.getElem?_append_left c] at e1
    rw [List.getElem?_append_left (by rw [← h.1]; exact c)] at e2
    exact s _ _ (h.2 i x y e1 e2)
  · have c1 : ts.length ≤ i := by omega
    rw [List.getElem?_append_right c1] at e1
    rw [List.getElem?_append_right (by rw [← h.1]; exact c1), ← h.1] at e2
    have z : i - ts.length = 0 := by
      have := (List.getElem?_eq_some_iff.mp e1).1
      simp only [List.length_cons, List.length_nil] at this
      omega
    rw [z] at e1 e2
    simp only [List.getElem?_cons_zero, Option.some.injEq] at e1 e2
    rw [← e1, ← e2]
    exact e
theorem Tps.app {α : Type} {f : α → List V} {H : Hp} {ts us : List Addr} {bs cs : List α} (h : Tps f H ts bs) (h2 : Tps f H us cs) : Tps f H (ts ++ us) (bs ++ cs) := by
  refine ⟨by rw [List.length_append, List.length_append, h.1, h2.1], fun i x y e1 e2 => ?_⟩
  by_cases c : i < ts.length
  · rw [List.getElem?_append_left c] at e1
    rw [List.getElem?_append_left (by rw [← h.1]; exact c)] at e2
    exact h.2 i x y e1 e2
  · have c1 : ts.length ≤ i := by omega
    rw [List.getElem?_append_right c1] at e1
    rw [List.getElem?_append_right (by rw [← h.1]; exact c1), ← h.1] at e2
    exact h2.2 _ x y e1 e2
theorem Tps.at {α : Type} {f : α → List V} {H : Hp} {ts : List Addr} {bs : List α} (h : Tps f H ts bs) {i : Nat} {t : Addr} (e : ts[i]? = some t) : ∃ b, bs[i]? = some b ∧ H t = some (.tup (f b)) := by
  have hi := (List.getElem?_eq_some_iff.mp e).1
  rw [h.1] at hi
  exact ⟨bs[i], List.getElem?_eq_getElem hi, h.2 i t _ e (List.getElem?_eq_getElem hi)⟩
theorem mem_at {α : Type} {l : List α} {i : Nat} {x : α} (e : l[i]? = some x) : x ∈ l := List.mem_of_getElem? e
/-- boxes and a plan, as two lists of the heap -/
structure BP (H : Hp) (l pl : Addr) (ts : List Addr) (bs : List Box) (ns : List Int) : Prop where
  hl : H l = some (.lst (ts.map V.ref))
  hb : Tps bx H ts bs
  hp : H pl = some (.lst (ns.map V.int))
  len : ns.length = bs.length
  gb : ∀ b ∈ bs, GB b
  gn : ∀ n ∈ ns, 0 ≤ n ∧ n ≤ 60
  l1 : 1 ≤ bs.length
  l6 : bs.length ≤ 6
theorem BP.same {H H' : Hp} {l pl : Addr} {ts : List Addr} {bs : List Box} {ns : List Int} (h : BP H l pl ts bs ns) (s : Same H H') : BP H' l pl ts bs ns :=
  ⟨s _ _ h.hl, h.hb.same s, s _ _ h.hp, h.len, h.gb, h.gn, h.l1, h.l6⟩
/-- 1 less (1 less hits over of) taken n times -/
def chq (b : Box) (n : Int) : Rat := Rat.divInt (b.2.2 ^ n.toNat - (b.2.2 - b.2.1) ^ n.toNat) (b.2.2 ^ n.toNat)
def costs (bs : List Box) (ns : List Int) : List Int := List.zipWith (fun b n => b.1 * n) bs ns
def chqs (bs : List Box) (ns : List Int) : List Rat := List.zipWith chq bs ns
/-- a heap without the purse's two lists -/
def Off (p c : Addr) (H : Hp) : Hp := fun b => if b = p ∨ b = c then none else H b
theorem off_le (p c : Addr) (H : Hp) : Same (Off p c H) H := fun b o h => by
  unfold Off at h
  split at h
  · cases h
  · exact h
theorem off_at {p c b : Addr} {H : Hp} (h1 : b ≠ p) (h2 : b ≠ c) : Off p c H b = H b := if_neg (fun z => z.elim h1 h2)
theorem off_ne {p c b : Addr} {H : Hp} {o : HO} (h : Off p c H b = some o) : b ≠ p ∧ b ≠ c := by
  unfold Off at h
  split at h
  · cases h
  · rename_i z
    exact ⟨fun e => z (.inl e), fun e => z (.inr e)⟩
theorem off_p {p c : Addr} {H : Hp} {o : HO} : Off p c (upd H p o) = Off p c H := by
  funext b
  unfold Off upd
  split
  · rfl
  · rename_i z
    rw [if_neg fun e => z (.inl e)]
theorem off_c {p c : Addr} {H : Hp} {o : HO} : Off p c (upd H c o) = Off p c H := by
  funext b
  unfold Off upd
  split
  · rfl
  · rename_i z
    rw [if_neg fun e => z (.inr e)]
theorem off_upd {p c b : Addr} {H : Hp} {o : HO} (h1 : b ≠ p) (h2 : b ≠ c) : Off p c (upd H b o) = upd (Off p c H) b o := by
  funext x
  unfold Off upd
  by_cases e : x = b
  · subst e
    rw [if_neg fun z => z.elim h1 h2, if_pos rfl, if_pos rfl]
  · rw [if_neg e, if_neg e]
/-- the purse: cells and a turn -/
structure Pur (H : Hp) (p c : Addr) (t : Int) : Prop where
  ne : p ≠ c
  hp : H p = some (.lst [.ref c, .int t])
  hc : ∃ ns : List Int, H c = some (.lst (ns.map V.int)) ∧ 0 < ns.length ∧ ns.length ≤ 63
  t0 : 0 ≤ t
theorem Pur.new {H : Hp} {p c : Addr} {t : Int} (h : Pur H p c t) {b : Addr} (hb : H b = none) : b ≠ p ∧ b ≠ c := by
  obtain ⟨ns, hc, _⟩ := h.hc
  exact ⟨(ne_of_none h.hp hb).symm, (ne_of_none hc hb).symm⟩
theorem Pur.upd {H : Hp} {p c : Addr} {t : Int} (h : Pur H p c t) {b : Addr} {o : HO} (h1 : b ≠ p) (h2 : b ≠ c) : Pur (L2.upd H b o) p c t := by
  obtain ⟨ns, hc, e⟩ := h.hc
  exact ⟨h.ne, by rw [upd_ne h1.symm]; exact h.hp, ⟨ns, by rw [upd_ne h2.symm]; exact hc, e⟩, h.t0⟩
theorem off_new {H : Hp} {p c b : Addr} (hb : H b = none) : Off p c H b = none := by
  unfold Off
  split
  · rfl
  · exact hb
theorem Pur.same {H H' : Hp} {p c : Addr} {t : Int} (h : Pur H p c t) (s : Same H H') : Pur H' p c t := by
  obtain ⟨ns, hc, e⟩ := h.hc
  exact ⟨h.ne, s _ _ h.hp, ⟨ns, s _ _ hc, e⟩, h.t0⟩
theorem off_same {H H' : Hp} (p c : Addr) (s : Same H H') : Same (Off p c H) (Off p c H') := fun b o h => by
  have n := off_ne h
  rw [off_at n.1 n.2] at h ⊢
  exact s _ _ h
def spWithin : Sp := fun vs H Q _ => ∃ x l m : Int, vs = [.int x, .int l, .int m] ∧ l ≤ x ∧ x ≤ m ∧ Q (.bl true) H
def spIsBox : Sp := fun vs H Q _ => ∃ (p : Addr) (b : Box), vs = [.ref p] ∧ H p = some (.tup (bx b)) ∧ GB b ∧ Q (.bl true) H
def spLook : Sp := fun vs H Q _ => ∃ (l : Addr) (ts : List Addr) (bs : List Box), vs = [.ref l] ∧ H l = some (.lst (ts.map V.ref)) ∧ Tps bx H ts bs ∧ (∀ b ∈ bs, GB b) ∧ 1 ≤ bs.length ∧ bs.length ≤ 6 ∧ ∀ H', Same H H' → Q .non H'
def spPow : Sp := fun vs H Q _ => ∃ b n : Int, vs = [.int b, .int n] ∧ 0 ≤ n ∧ n ≤ 60 ∧ 0 ≤ b ∧ b ≤ 50 ∧ Q (.int (b ^ n.toNat)) H
def spMissed : Sp := fun vs H Q _ => ∃ (p : Addr) (b : Box) (n : Int), vs = [.ref p, .int n] ∧ H p = some (.tup (bx b)) ∧ GB b ∧ 0 ≤ n ∧ n ≤ 60 ∧ ∀ (r : Addr) (H' : Hp), Same H H' → H' r = some (.tup [.int ((b.2.2 - b.2.1) ^ n.toNat), .int (b.2.2 ^ n.toNat)]) → Q (.ref r) H'
def spChance : Sp := fun vs H Q _ => ∃ (p : Addr) (b : Box) (n : Int), vs = [.ref p, .int n] ∧ H p = some (.tup (bx b)) ∧ GB b ∧ 0 ≤ n ∧ n ≤ 60 ∧ ∀ (r : Addr) (H' : Hp), Same H H' → H' r = some (.tup (fr (chq b n))) → Q (.ref r) H'
def spCost : Sp := fun vs H Q _ => ∃ (l pl : Addr) (ts : List Addr) (bs : List Box) (ns : List Int), vs = [.ref l, .ref pl] ∧ BP H l pl ts bs ns ∧ ∀ H', Same H H' → Q (.int (costs bs ns).sum) H'
def spFound : Sp := fun vs H Q _ => ∃ (l pl : Addr) (ts : List Addr) (bs : List Box) (ns : List Int), vs = [.ref l, .ref pl] ∧ BP H l pl ts bs ns ∧ ∀ (r : Addr) (rs : List Addr) (H' : Hp), Same H H' → H r = none → H' r = some (.lst (rs.map V.ref)) → Tps fr H' rs (chqs bs ns) → Q (.ref r) H'
def spLowP : Sp := fun vs H Q _ => ∃ t b : Int, vs = [.int t, .int b] ∧ 0 < b ∧ Bd 6000 b ∧ ∀ (r : Addr) (H' : Hp), Same H H' → H' r = some (.tup (fr (Rat.divInt t b))) → Q (.ref r) H'
def spPurse (K : PySem.W.Frag) : Sp := fun vs H Q _ => ∃ (s : Addr) (ns : List Int), vs = [.ref s] ∧ SqL K H s (ns.map V.int) ∧ ∀ (p c : Addr) (H' : Hp), Same H H' → Pur H' p c 0 → Q (.ref p) H'
def spDraw : Sp := fun vs H Q _ => ∃ (p c : Addr) (t m : Int), vs = [.ref p, .int m] ∧ Pur H p c t ∧ t < 100000 ∧ 0 < m ∧ m ≤ 1000000000000000000000000000000 ∧ ∀ (r : Int) (H' : Hp), 0 ≤ r → r < m → Off p c H' = Off p c H → Pur H' p c (t + 1) → Q (.int r) H'
def spBoxes : Sp := fun vs H Q _ => ∃ (p c : Addr) (t : Int), vs = [.ref p, .int 6] ∧ Pur H p c t ∧ t < 10000 ∧ ∀ (l : Addr) (ts : List Addr) (bs : List Box) (t' : Int) (H' : Hp), Same (Off p c H) (Off p c H') → Pur H' p c t' → t' ≤ t + 50 → Off p c H' l = some (.lst (ts.map V.ref)) → Tps bx (Off p c H') ts bs → (∀ b ∈ bs, GB b) → 1 ≤ bs.length → bs.length ≤ 6 → Q (.ref l) H'
def spPlan : Sp := fun vs H Q _ => ∃ (p c : Addr) (t n : Int), vs = [.ref p, .int n] ∧ Pur H p c t ∧ t < 10000 ∧ 0 ≤ n ∧ n ≤ 6 ∧ ∀ (l : Addr) (ns : List Int) (t' : Int) (H' : Hp), Same (Off p c H) (Off p c H') → Pur H' p c t' → t' ≤ t + 12 → Off p c H' l = some (.lst (ns.map V.int)) → (ns.length : Int) = n → (∀ n ∈ ns, 0 ≤ n ∧ n ≤ 60) → H l = none → Q (.ref l) H'
def spCopies : Sp := fun vs H Q _ => ∃ (h l pl : Addr) (xs ys : List V), vs = [.ref h] ∧ H h = some (.lst [.ref l, .ref pl]) ∧ H l = some (.lst xs) ∧ H pl = some (.lst ys) ∧ ∀ (h' l' pl' : Addr) (H' : Hp), Same H H' → H' h' = some (.lst [.ref l', .ref pl']) → H' l' = some (.lst xs) → H' pl' = some (.lst ys) → Q (.ref h') H'
def spRight : Sp := fun vs H Q _ => ∃ (h l' pl' l pl : Addr) (ts : List Addr) (bs : List Box) (ns : List Int), vs = [.ref h, .ref l, .ref pl] ∧ H h = some (.lst [.ref l', .ref pl']) ∧ BP H l' pl' ts bs ns ∧ BP H l pl ts bs ns ∧ ∀ H', Same H H' → Q (.bl true) H'
section
variable {P : Program} {w : World} {mg : Str → Option Value} {base : Heap}
variable {K : PySem.W.Frag} {H : Hp} {Q : VK} {a : Ad} {E : XK}
open HT in
theorem cut63 (ns : List Int) : ∃ ms : List Int, cutV (ns.map V.int) none (some 63) = ms.map V.int ∧ ms.length ≤ 63 := by
  refine ⟨ns.take 63, ?_, by rw [List.length_take]; omega⟩
  unfold cutV
  rw [sIx_none, Nat.sub_zero, List.drop_zero]
  have e : sIx (ns.map V.int).length (ns.map V.int).length (some 63) = min 63 (ns.map V.int).length := sIx_nat _ _ 63
  rw [e, List.map_take]
  by_cases c : 63 ≤ (ns.map V.int).length
  · rw [Nat.min_eq_left c]
  · have c' : (ns.map V.int).length ≤ 63 := by omega
    rw [Nat.min_eq_right c', List.take_of_length_le (Nat.le_refl _), List.take_of_length_le c']
def t__law_purse (K : PySem.W.Frag) : TS :=
  (tSeq (tAsg (tSl (rSlL K) (tVar 0) tNoPart (tPart (tC (.int 63)))) (gName 1))
  (tSeq (tCut (tIfS (tTest (tOp (rEqE K) (tVar 1) (tLst tNil))) (tAsg (tLst (tCons (tC (.int 0)) tNil)) (gName 1)) tNext))
  (tRet (tLst (tCons (tVar 1) (tCons (tC (.int 0)) tNil))))))
theorem rd__law_purse {s : Addr} {ns : List Int} (hS : SqL K H s (ns.map V.int)) (q : ∀ (p c : Addr) (H' : Hp), Same H H' → Pur H' p c 0 → Q (.ref p) H') :
    t__law_purse K { nx := fun _ H' => Q .non H', rt := Q } (L2.start ["_law_script", "_law_cells"] [.ref s]) H := by
  unfold t__law_purse
  simp only [rIn, rPopAt, rClear, rCatT, tBM0, rExtend, tComp_eq, rRep, rCount, rSum, rEqD, rNeD, rEqE, capS, gLst, tNoTest, tChain, gSub, tSl, tNoPart, tPart, rSlL, rSetL, rAppend, Option.bind_some, Option.bind_none, Option.join_some, Option.map_some, List.getElem?_cons_zero, List.getElem?_cons_succ, tRaise, tCallS, tTry, rCat, V.str.injEq, V.ty.injEq, rNeT, rEqT, tBM, tFor_eq, iRng1, iRng2, iList, iTup, tSeq, tNext, tAsg, gName, gTup, gCons, gNil, tCB, tCons, tNil, tVar, tC, tOp, tUn, tTest, tB, tTru, tAnd, tOr, tNot, tAndV, tOrV, tNotV, tIf, tIfS, tRet, tRetN, tDrop, tLst, tTup, tPar, tCall, rI, rI0, rU, rEq, rNe, rIxL, rIxT, L2.start, truV_int, truV_bl, scal_int, scal_bl, List.map_cons, List.map_nil, List.length_cons, List.length_nil, List.replicate, List.cons_append, List.nil_append, List.append_nil, List.getElem?_cons_zero, List.getElem?_cons_succ, Option.some.injEq, exists_eq_left', exists_eq_left, exists_and_left, List.cons.injEq, V.int.injEq, V.ref.injEq, V.bl.injEq, and_true, true_and, List.set_cons_zero, List.set_cons_succ, Nat.reduceAdd, Nat.reduceSub, Int.reduceToNat, Int.reducePow, Int.reduceNeg, Int.reduceMul, Int.reduceAdd, Int.reduceSub, decide_eq_true_eq, Bool.not_eq_true', decide_eq_false_iff_not, exists_const, and_assoc, exists_eq, exists_eq', if_true, if_false, Bool.false_eq_true, Bool.true_eq_false, reduceCtorEq, not_true_eq_false, not_false_eq_true]
  refine ⟨_, hS, fun c hc => ?_⟩
  obtain ⟨ms, em, lm⟩ := cut63 ns
  rw [em]
  refine ⟨fun σ H' => Same H H' ∧ ∃ (c : Addr) (ms : List Int), σ = [some (.ref s), some (.ref c)] ∧ H' c = some (.lst (ms.map V.int)) ∧ 0 < ms.length ∧ ms.length ≤ 63, ?_, ?_⟩
  · simp only [rIn, rPopAt, rClear, rCatT, tBM0, rExtend, tComp_eq, rRep, rCount, rSum, rEqD, rNeD, rEqE, capS, gLst, tNoTest, tChain, gSub, tSl, tNoPart, tPart, rSlL, rSetL, rAppend, Option.bind_some, Option.bind_none, Option.join_some, Option.map_some, List.getElem?_cons_zero, List.getElem?_cons_succ, tRaise, tCallS, tTry, rCat, V.str.injEq, V.ty.injEq, rNeT, rEqT, tBM, tFor_eq, iRng1, iRng2, iList, iTup, tSeq, tNext, tAsg, gName, gTup, gCons, gNil, tCB, tCons, tNil, tVar, tC, tOp, tUn, tTest, tB, tTru, tAnd, tOr, tNot, tAndV, tOrV, tNotV, tIf, tIfS, tRet, tRetN, tDrop, tLst, tTup, tPar, tCall, rI, rI0, rU, rEq, rNe, rIxL, rIxT, L2.start, truV_int, truV_bl, scal_int, scal_bl, List.map_cons, List.map_nil, List.length_cons, List.length_nil, List.replicate, List.cons_append, List.nil_append, List.append_nil, List.getElem?_cons_zero, List.getElem?_cons_succ, Option.some.injEq, exists_eq_left', exists_eq_left, exists_and_left, List.cons.injEq, V.int.injEq, V.ref.injEq, V.bl.injEq, and_true, true_and, List.set_cons_zero, List.set_cons_succ, Nat.reduceAdd, Nat.reduceSub, Int.reduceToNat, Int.reducePow, Int.reduceNeg, Int.reduceMul, Int.reduceAdd, Int.reduceSub, decide_eq_true_eq, Bool.not_eq_true', decide_eq_false_iff_not, exists_const, and_assoc, exists_eq, exists_eq', if_true, if_false, Bool.false_eq_true, Bool.true_eq_false, reduceCtorEq, not_true_eq_false, not_false_eq_true]
    refine ⟨by decide, fun e he => ?_⟩
    have hce : c ≠ e := ne_of_none upd_same he
    refine ⟨_, SqL.of (by rw [upd_ne hce]; exact upd_same), SqL.of upd_same, ?_⟩
    refine ite2 (fun z => ?_) (fun z => ?_)
    · refine ⟨by decide, fun d hd => ⟨((same_new hc _).add he).add hd, [0], upd_same, by decide, by decide⟩⟩
    · refine ⟨(same_new hc _).add he, ms, by rw [upd_ne hce]; exact upd_same, ?_, lm⟩
      cases ms with
      | nil => exact absurd rfl z
      | cons x xs => exact Nat.succ_pos _
  · rintro σ H' ⟨s1, c, ms, rfl, h1, h2, h3⟩
    simp only [rIn, rPopAt, rClear, rCatT, tBM0, rExtend, tComp_eq, rRep, rCount, rSum, rEqD, rNeD, rEqE, capS, gLst, tNoTest, tChain, gSub, tSl, tNoPart, tPart, rSlL, rSetL, rAppend, Option.bind_some, Option.bind_none, Option.join_some, Option.map_some, List.getElem?_cons_zero, List.getElem?_cons_succ, tRaise, tCallS, tTry, rCat, V.str.injEq, V.ty.injEq, rNeT, rEqT, tBM, tFor_eq, iRng1, iRng2, iList, iTup, tSeq, tNext, tAsg, gName, gTup, gCons, gNil, tCB, tCons, tNil, tVar, tC, tOp, tUn, tTest, tB, tTru, tAnd, tOr, tNot, tAndV, tOrV, tNotV, tIf, tIfS, tRet, tRetN, tDrop, tLst, tTup, tPar, tCall, rI, rI0, rU, rEq, rNe, rIxL, rIxT, L2.start, truV_int, truV_bl, scal_int, scal_bl, List.map_cons, List.map_nil, List.length_cons, List.length_nil, List.replicate, List.cons_append, List.nil_append, List.append_nil, List.getElem?_cons_zero, List.getElem?_cons_succ, Option.some.injEq, exists_eq_left', exists_eq_left, exists_and_left, List.cons.injEq, V.int.injEq, V.ref.injEq, V.bl.injEq, and_true, true_and, List.set_cons_zero, List.set_cons_succ, Nat.reduceAdd, Nat.reduceSub, Int.reduceToNat, Int.reducePow, Int.reduceNeg, Int.reduceMul, Int.reduceAdd, Int.reduceSub, decide_eq_true_eq, Bool.not_eq_true', decide_eq_false_iff_not, exists_const, and_assoc, exists_eq, exists_eq', if_true, if_false, Bool.false_eq_true, Bool.true_eq_false, reduceCtorEq, not_true_eq_false, not_false_eq_true]
    refine ⟨by decide, fun p hp => q p c _ (s1.add hp) ⟨(ne_of_none h1 hp).symm, upd_same, ⟨ms, by rw [upd_ne (ne_of_none h1 hp)]; exact h1, h2, h3⟩, by decide⟩⟩
theorem sc__law_purse : FnScope ["_law_script", "_law_cells"] ["_law_script"] (defScope s__law_purse) := ⟨rfl, rfl, rfl, by decide +kernel, rfl, by decide +kernel, by decide +kernel⟩
theorem ok__law_purse (T : Txt K mg a) : FnOk P w K mg base CX0 1 a.f__law_purse a.d__law_purse ["_law_script"] (spPurse K) := by
  refine T.F__law_purse.ok sc__law_purse (fun vs H Q E h => ?_) (fun cdv A outer s H vs Q E hr h => ?_)
  · obtain ⟨s, ns, rfl, hS, q⟩ := h
    rfl
  obtain ⟨s, ns, rfl, hS, q⟩ := h
  exact ⟨t__law_purse K, (pss_cons (ps_set (i := 1) sc__law_purse.nd rfl (Or.inl rfl) (pe_slice sl_list (pv 0) po_none (po_some pe_int)))
  (pss_cons (ps_cut (ps_if (pt_cmpR (op_eqE hr.units) (pv 1) (pe_lst pa_nil) (nomark _)) (pss_one (ps_set (i := 1) sc__law_purse.nd rfl (Or.inl rfl) (pe_lst (pa_cons pe_int pa_nil)))) pss_nil))
  (pss_one (ps_ret (pe_lst (pa_cons (pv 1) (pa_cons pe_int pa_nil))))))),
    rd__law_purse hS q⟩

theorem logM {m : Int} (h0 : 0 < m) (h1 : m ≤ 1000000000000000000000000000000) : m.natAbs.log2 < 9000 := log_lt 100 (by omega) (by omega)
theorem ix_nat {n j : Nat} (h : j < n) : ixN n (j : Int) = some j := by
  unfold ixN
  rw [if_pos (by omega), if_pos (by omega)]
  simp
def t__law_draw (K : PySem.W.Frag) : TS :=
  (tSeq (tAsg (tVar 0) (gLst K 2 (gCons (gName 2) (gCons (gName 3) gNil))))
  (tSeq (tAsg (tOp (rI (fun _ j => j ≠ 0) fun i j => .int (i.fmod j)) (tVar 3) (tCB (fun xs H Q => ∃ p ys, xs = [.ref p] ∧ (SqL K H p ys ∨ SqT K H p ys) ∧ Q (.int ys.length) H) (tCons (tVar 2) tNil))) (gName 4))
  (tSeq (tAsg (tOp (rIxL K) (tVar 2) (tVar 4)) (gName 5))
  (tSeq (tAsg (tOp (rI0 fun i j => .int (i + j)) (tVar 3) (tC (.int 1))) (gSub (tVar 0) (tC (.int 1)) rSetL))
  (tSeq (tCut (tIfS (tTest (tOp (rI0 fun i j => .bl (decide (j ≤ i))) (tVar 5) (tOp (rI CPow fun i j => .int (i ^ j.toNat)) (tC (.int 10)) (tC (.int 18))))) (tSeq (tAsg (tOp (rI (fun _ j => j ≠ 0 ∧ j.natAbs.log2 < 9000) fun i j => .int (i.fdiv j)) (tVar 5) (tVar 1)) (gSub (tVar 2) (tVar 4) rSetL))
  (tRet (tOp (rI (fun _ j => j ≠ 0) fun i j => .int (i.fmod j)) (tVar 5) (tVar 1)))) tNext))
  (tSeq (tAsg (tOp (rI (fun _ j => 0 < j) fun i j => .int (i % j)) (tOp (rI0 fun i j => .int (i + j)) (tOp (rI0 fun i j => .int (i + j)) (tOp (rI IntMulOk fun i j => .int (i * j)) (tVar 5) (tC (.int 48271))) (tOp (rI IntMulOk fun i j => .int (i * j)) (tOp (rI IntMulOk fun i j => .int (i * j)) (tVar 3) (tVar 3)) (tC (.int 69621)))) (tC (.int 7))) (tC (.int 2147483647))) (gName 6))
  (tSeq (tAsg (tOp (rI (fun _ j => 0 < j) fun i j => .int (i % j)) (tOp (rI IntMulOk fun i j => .int (i * j)) (tVar 6) (tVar 6)) (tC (.int 2147483629))) (gName 6))
  (tRet (tOp (rI (fun _ j => j ≠ 0) fun i j => .int (i.fmod j)) (tOp (rI (fun _ j => 0 < j) fun i j => .int (i % j)) (tOp (rI IntMulOk fun i j => .int (i * j)) (tVar 6) (tVar 6)) (tC (.int 2147483587))) (tVar 1))))))))))
theorem rd__law_draw {p c : Addr} {t m : Int} (hP : Pur H p c t) (t1 : t < 100000) (m0 : 0 < m) (m1 : m ≤ 1000000000000000000000000000000)
    (q : ∀ (r : Int) (H' : Hp), 0 ≤ r → r < m → Off p c H' = Off p c H → Pur H' p c (t + 1) → Q (.int r) H') :
    t__law_draw K { nx := fun _ H' => Q .non H', rt := Q } (L2.start ["_law_purse_here", "_law_out_of", "_law_cells", "_law_turn", "_law_at", "_law_cell", "_law_number"] [.ref p, .int m]) H := by
  unfold t__law_draw
  obtain ⟨ns, hc, l0, l1⟩ := hP.hc
  have t0 := hP.t0
  have el : ((ns.map V.int).length : Int) = (ns.length : Int) := by rw [List.length_map]
  simp only [rIn, rPopAt, rClear, rCatT, tBM0, rExtend, tComp_eq, rRep, rCount, rSum, rEqD, rNeD, rEqE, capS, gLst, tNoTest, tChain, gSub, tSl, tNoPart, tPart, rSlL, rSetL, rAppend, Option.bind_some, Option.bind_none, Option.join_some, Option.map_some, List.getElem?_cons_zero, List.getElem?_cons_succ, tRaise, tCallS, tTry, rCat, V.str.injEq, V.ty.injEq, rNeT, rEqT, tBM, tFor_eq, iRng1, iRng2, iList, iTup, tSeq, tNext, tAsg, gName, gTup, gCons, gNil, tCB, tCons, tNil, tVar, tC, tOp, tUn, tTest, tB, tTru, tAnd, tOr, tNot, tAndV, tOrV, tNotV, tIf, tIfS, tRet, tRetN, tDrop, tLst, tTup, tPar, tCall, rI, rI0, rU, rEq, rNe, rIxL, rIxT, L2.start, truV_int, truV_bl, scal_int, scal_bl, List.map_cons, List.map_nil, List.length_cons, List.length_nil, List.replicate, List.cons_append, List.nil_append, List.append_nil, List.getElem?_cons_zero, List.getElem?_cons_succ, Option.some.injEq, exists_eq_left', exists_eq_left, exists_and_left, List.cons.injEq, V.int.injEq, V.ref.injEq, V.bl.injEq, and_true, true_and, List.set_cons_zero, List.set_cons_succ, Nat.reduceAdd, Nat.reduceSub, Int.reduceToNat, Int.reducePow, Int.reduceNeg, Int.reduceMul, Int.reduceAdd, Int.reduceSub, decide_eq_true_eq, Bool.not_eq_true', decide_eq_false_iff_not, exists_const, and_assoc, exists_eq, exists_eq', if_true, if_false, Bool.false_eq_true, Bool.true_eq_false, reduceCtorEq, not_true_eq_false, not_false_eq_true]
  refine ⟨_, SqL.of hP.hp, rfl, _, _, rfl, _, _, rfl, rfl, ?_⟩
  simp only [rIn, rPopAt, rClear, rCatT, tBM0, rExtend, tComp_eq, rRep, rCount, rSum, rEqD, rNeD, rEqE, capS, gLst, tNoTest, tChain, gSub, tSl, tNoPart, tPart, rSlL, rSetL, rAppend, Option.bind_some, Option.bind_none, Option.join_some, Option.map_some, List.getElem?_cons_zero, List.getElem?_cons_succ, tRaise, tCallS, tTry, rCat, V.str.injEq, V.ty.injEq, rNeT, rEqT, tBM, tFor_eq, iRng1, iRng2, iList, iTup, tSeq, tNext, tAsg, gName, gTup, gCons, gNil, tCB, tCons, tNil, tVar, tC, tOp, tUn, tTest, tB, tTru, tAnd, tOr, tNot, tAndV, tOrV, tNotV, tIf, tIfS, tRet, tRetN, tDrop, tLst, tTup, tPar, tCall, rI, rI0, rU, rEq, rNe, rIxL, rIxT, L2.start, truV_int, truV_bl, scal_int, scal_bl, List.map_cons, List.map_nil, List.length_cons, List.length_nil, List.replicate, List.cons_append, List.nil_append, List.append_nil, List.getElem?_cons_zero, List.getElem?_cons_succ, Option.some.injEq, exists_eq_left', exists_eq_left, exists_and_left, List.cons.injEq, V.int.injEq, V.ref.injEq, V.bl.injEq, and_true, true_and, List.set_cons_zero, List.set_cons_succ, Nat.reduceAdd, Nat.reduceSub, Int.reduceToNat, Int.reducePow, Int.reduceNeg, Int.reduceMul, Int.reduceAdd, Int.reduceSub, decide_eq_true_eq, Bool.not_eq_true', decide_eq_false_iff_not, exists_const, and_assoc, exists_eq, exists_eq', if_true, if_false, Bool.false_eq_true, Bool.true_eq_false, reduceCtorEq, not_true_eq_false, not_false_eq_true]
  refine ⟨_, .inl (SqL.of hc), ?_⟩
  rw [el]
  have lp : (0 : Int) < (ns.length : Int) := by omega
  rw [Int.fmod_eq_emod_of_nonneg t (Int.le_of_lt lp)]
  have k0 := Int.emod_nonneg t (show (ns.length : Int) ≠ 0 by omega)
  have k1 := Int.emod_lt_of_pos t lp
  obtain ⟨v, hv, _⟩ := at_int (ns := ns) k0 k1
  generalize t % (ns.length : Int) = k at k0 k1 hv ⊢
  refine ⟨by omega, _, SqL.of hc, _, hv, ?_⟩
  refine ⟨_, hP.hp, 1, rfl, ?_⟩
  simp only [rIn, rPopAt, rClear, rCatT, tBM0, rExtend, tComp_eq, rRep, rCount, rSum, rEqD, rNeD, rEqE, capS, gLst, tNoTest, tChain, gSub, tSl, tNoPart, tPart, rSlL, rSetL, rAppend, Option.bind_some, Option.bind_none, Option.join_some, Option.map_some, List.getElem?_cons_zero, List.getElem?_cons_succ, tRaise, tCallS, tTry, rCat, V.str.injEq, V.ty.injEq, rNeT, rEqT, tBM, tFor_eq, iRng1, iRng2, iList, iTup, tSeq, tNext, tAsg, gName, gTup, gCons, gNil, tCB, tCons, tNil, tVar, tC, tOp, tUn, tTest, tB, tTru, tAnd, tOr, tNot, tAndV, tOrV, tNotV, tIf, tIfS, tRet, tRetN, tDrop, tLst, tTup, tPar, tCall, rI, rI0, rU, rEq, rNe, rIxL, rIxT, L2.start, truV_int, truV_bl, scal_int, scal_bl, List.map_cons, List.map_nil, List.length_cons, List.length_nil, List.replicate, List.cons_append, List.nil_append, List.append_nil, List.getElem?_cons_zero, List.getElem?_cons_succ, Option.some.injEq, exists_eq_left', exists_eq_left, exists_and_left, List.cons.injEq, V.int.injEq, V.ref.injEq, V.bl.injEq, and_true, true_and, List.set_cons_zero, List.set_cons_succ, Nat.reduceAdd, Nat.reduceSub, Int.reduceToNat, Int.reducePow, Int.reduceNeg, Int.reduceMul, Int.reduceAdd, Int.reduceSub, decide_eq_true_eq, Bool.not_eq_true', decide_eq_false_iff_not, exists_const, and_assoc, exists_eq, exists_eq', if_true, if_false, Bool.false_eq_true, Bool.true_eq_false, reduceCtorEq, not_true_eq_false, not_false_eq_true]
  have hp2 : ∀ G : Hp, (L2.upd G p (.lst [.ref c, .int (t + 1)])) p = some (.lst [.ref c, .int (t + 1)]) := fun G => upd_same
  have hc2 : (L2.upd H p (.lst [.ref c, .int (t + 1)])) c = some (.lst (ns.map V.int)) := by rw [upd_ne hP.ne.symm]; exact hc
  have o2 : Off p c (L2.upd H p (.lst [.ref c, .int (t + 1)])) = Off p c H := off_p
  have hp3 := hp2 H
  generalize L2.upd H p (.lst [.ref c, .int (t + 1)]) = G at hp3 hc2 o2 ⊢
  refine ⟨fun σ H' => H' = G ∧ σ = [some (.ref p), some (.int m), some (.ref c), some (.int t), some (.int k), some (.int v), none], ?_, ?_⟩
  · simp only [rIn, rPopAt, rClear, rCatT, tBM0, rExtend, tComp_eq, rRep, rCount, rSum, rEqD, rNeD, rEqE, capS, gLst, tNoTest, tChain, gSub, tSl, tNoPart, tPart, rSlL, rSetL, rAppend, Option.bind_some, Option.bind_none, Option.join_some, Option.map_some, List.getElem?_cons_zero, List.getElem?_cons_succ, tRaise, tCallS, tTry, rCat, V.str.injEq, V.ty.injEq, rNeT, rEqT, tBM, tFor_eq, iRng1, iRng2, iList, iTup, tSeq, tNext, tAsg, gName, gTup, gCons, gNil, tCB, tCons, tNil, tVar, tC, tOp, tUn, tTest, tB, tTru, tAnd, tOr, tNot, tAndV, tOrV, tNotV, tIf, tIfS, tRet, tRetN, tDrop, tLst, tTup, tPar, tCall, rI, rI0, rU, rEq, rNe, rIxL, rIxT, L2.start, truV_int, truV_bl, scal_int, scal_bl, List.map_cons, List.map_nil, List.length_cons, List.length_nil, List.replicate, List.cons_append, List.nil_append, List.append_nil, List.getElem?_cons_zero, List.getElem?_cons_succ, Option.some.injEq, exists_eq_left', exists_eq_left, exists_and_left, List.cons.injEq, V.int.injEq, V.ref.injEq, V.bl.injEq, and_true, true_and, List.set_cons_zero, List.set_cons_succ, Nat.reduceAdd, Nat.reduceSub, Int.reduceToNat, Int.reducePow, Int.reduceNeg, Int.reduceMul, Int.reduceAdd, Int.reduceSub, decide_eq_true_eq, Bool.not_eq_true', decide_eq_false_iff_not, exists_const, and_assoc, exists_eq, exists_eq', if_true, if_false, Bool.false_eq_true, Bool.true_eq_false, reduceCtorEq, not_true_eq_false, not_false_eq_true]
    refine ⟨pow18, ite2 (fun z => ?_) (fun z => trivial)⟩
    obtain ⟨j, rfl⟩ := Int.eq_ofNat_of_zero_le k0
    refine ⟨by omega, logM m0 m1, _, hc2, j, ix_nat (by rw [List.length_map]; omega), by omega, ?_⟩
    rw [Int.fmod_eq_emod_of_nonneg v (Int.le_of_lt m0)]
    refine q _ _ (Int.emod_nonneg _ (by omega)) (Int.emod_lt_of_pos _ m0) (off_c.trans o2) ⟨hP.ne, by rw [upd_ne hP.ne]; exact hp3, ⟨ns.set j (v.fdiv m), ?_, by rw [List.length_set]; exact l0, by rw [List.length_set]; exact l1⟩, by omega⟩
    rw [upd_same, List.map_set]
  · rintro σ H' ⟨e, rfl⟩
    rw [e]
    simp only [rIn, rPopAt, rClear, rCatT, tBM0, rExtend, tComp_eq, rRep, rCount, rSum, rEqD, rNeD, rEqE, capS, gLst, tNoTest, tChain, gSub, tSl, tNoPart, tPart, rSlL, rSetL, rAppend, Option.bind_some, Option.bind_none, Option.join_some, Option.map_some, List.getElem?_cons_zero, List.getElem?_cons_succ, tRaise, tCallS, tTry, rCat, V.str.injEq, V.ty.injEq, rNeT, rEqT, tBM, tFor_eq, iRng1, iRng2, iList, iTup, tSeq, tNext, tAsg, gName, gTup, gCons, gNil, tCB, tCons, tNil, tVar, tC, tOp, tUn, tTest, tB, tTru, tAnd, tOr, tNot, tAndV, tOrV, tNotV, tIf, tIfS, tRet, tRetN, tDrop, tLst, tTup, tPar, tCall, rI, rI0, rU, rEq, rNe, rIxL, rIxT, L2.start, truV_int, truV_bl, scal_int, scal_bl, List.map_cons, List.map_nil, List.length_cons, List.length_nil, List.replicate, List.cons_append, List.nil_append, List.append_nil, List.getElem?_cons_zero, List.getElem?_cons_succ, Option.some.injEq, exists_eq_left', exists_eq_left, exists_and_left, List.cons.injEq, V.int.injEq, V.ref.injEq, V.bl.injEq, and_true, true_and, List.set_cons_zero, List.set_cons_succ, Nat.reduceAdd, Nat.reduceSub, Int.reduceToNat, Int.reducePow, Int.reduceNeg, Int.reduceMul, Int.reduceAdd, Int.reduceSub, decide_eq_true_eq, Bool.not_eq_true', decide_eq_false_iff_not, exists_const, and_assoc, exists_eq, exists_eq', if_true, if_false, Bool.false_eq_true, Bool.true_eq_false, reduceCtorEq, not_true_eq_false, not_false_eq_true]
    have a1 : IntMulOk t t := mulR (by omega) (by omega)
    have a2 : IntMulOk (t * t) 69621 := mulR (by decide) (by decide)
    generalize v * 48271 + t * t * 69621 + 7 = y
    have b3 := Int.emod_nonneg y (show (2147483647 : Int) ≠ 0 by decide)
    have b4 := Int.emod_lt_of_pos y (show (0 : Int) < 2147483647 by decide)
    generalize y % 2147483647 = x at b3 b4 ⊢
    have b5 := Int.emod_nonneg (x * x) (show (2147483629 : Int) ≠ 0 by decide)
    have b6 := Int.emod_lt_of_pos (x * x) (show (0 : Int) < 2147483629 by decide)
    have a3 : IntMulOk x x := mulR (by omega) (by omega)
    generalize x * x % 2147483629 = w at b5 b6 ⊢
    refine ⟨mulR (by decide) (by decide), a1, a2, by decide, a3, by decide, mulR (by omega) (by omega), by decide, by omega, ?_⟩
    rw [Int.fmod_eq_emod_of_nonneg _ (Int.le_of_lt m0)]
    exact q _ _ (Int.emod_nonneg _ (by omega)) (Int.emod_lt_of_pos _ m0) o2 ⟨hP.ne, hp3, ⟨ns, hc2, l0, l1⟩, by omega⟩
theorem sc__law_draw : FnScope ["_law_purse_here", "_law_out_of", "_law_cells", "_law_turn", "_law_at", "_law_cell", "_law_number"] ["_law_purse_here", "_law_out_of"] (defScope s__law_draw) := ⟨rfl, rfl, rfl, by decide +kernel, rfl, by decide +kernel, by decide +kernel⟩
theorem ok__law_draw (T : Txt K mg a) : FnOk P w K mg base CX0 1 a.f__law_draw a.d__law_draw ["_law_purse_here", "_law_out_of"] spDraw := by
  refine T.F__law_draw.ok sc__law_draw (fun vs H Q E h => ?_) (fun cdv A outer s H vs Q E hr h => ?_)
  · obtain ⟨p, c, t, m, rfl, hP, t1, m0, m1, q⟩ := h
    rfl
  obtain ⟨p, c, t, m, rfl, hP, t1, m0, m1, q⟩ := h
  exact ⟨t__law_draw K, (pss_cons (ps_asg (pv 0) (pg_lst rfl (pgs_cons (pg_name (i := 2) sc__law_draw.nd rfl (Or.inl rfl)) (pgs_cons (pg_name (i := 3) sc__law_draw.nd rfl (Or.inl rfl)) pgs_nil))))
  (pss_cons (ps_set (i := 4) sc__law_draw.nd rfl (Or.inl rfl) (pe_op op_modG (pv 3) (pe_callB call_len_seq rfl T.z_len PySem.boot_len (pa_cons (pv 2) pa_nil))))
  (pss_cons (ps_set (i := 5) sc__law_draw.nd rfl (Or.inl rfl) (pe_ix ix_list (pv 2) (pv 4) (fun _ _ => rfl)))
  (pss_cons (ps_asg (pe_op op_add (pv 3) pe_int) (pg_sub (pv 0) pe_int set_list))
  (pss_cons (ps_cut (ps_if (pt_cmpR op_ge (pv 5) (pe_op op_pow pe_int pe_int) (nomark _)) (pss_cons (ps_asg (pe_op op_fdivG (pv 5) (pv 1)) (pg_sub (pv 2) (pv 4) set_list))
  (pss_one (ps_ret (pe_op op_modG (pv 5) (pv 1))))) pss_nil))
  (pss_cons (ps_set (i := 6) sc__law_draw.nd rfl (Or.inl rfl) (pe_op op_mod (pe_op op_add (pe_op op_add (pe_op op_mulG (pv 5) pe_int) (pe_op op_mulG (pe_op op_mulG (pv 3) (pv 3)) pe_int)) pe_int) pe_int))
  (pss_cons (ps_set (i := 6) sc__law_draw.nd rfl (Or.inl rfl) (pe_op op_mod (pe_op op_mulG (pv 6) (pv 6)) pe_int))
  (pss_one (ps_ret (pe_op op_modG (pe_op op_mod (pe_op op_mulG (pv 6) (pv 6)) pe_int) (pv 1))))))))))),
    rd__law_draw hP t1 m0 m1 q⟩

def t_is_whole (K : PySem.W.Frag) : TS :=
  (tRet (tAndV (tCB (rIsi K) (tCons (tVar 0) (tCons (tC (.ty "int")) tNil))) (tNotV (tCB (rIsi K) (tCons (tVar 0) (tCons (tC (.ty "bool")) tNil))))))
theorem rd_is_whole {x : Int} (q : Q (.bl true) H) : t_is_whole K { nx := fun _ H' => Q .non H', rt := Q } (L2.start ["thing"] [.int x]) H := by
  unfold t_is_whole
  simp only [tRaise, tCallS, tTry, rCat, V.str.injEq, V.ty.injEq, rNeT, rEqT, tBM, tFor_eq, iRng1, iRng2, iList, iTup, tSeq, tNext, tAsg, gName, gTup, gCons, gNil, tCB, tCons, tNil, tVar, tC, tOp, tUn, tTest, tB, tTru, tAnd, tOr, tNot, tAndV, tOrV, tNotV, tIf, tIfS, tRet, tRetN, tDrop, tLst, tTup, tPar, tCall, rI, rI0, rU, rEq, rNe, rIxL, rIxT, L2.start, truV_int, truV_bl, scal_int, scal_bl,
    List.map_cons, List.map_nil, List.length_cons, List.length_nil, List.replicate, List.cons_append, List.nil_append, List.append_nil, List.getElem?_cons_zero, List.getElem?_cons_succ, Option.some.injEq, exists_eq_left', exists_eq_left, exists_and_left, List.cons.injEq, V.int.injEq, V.ref.injEq, V.bl.injEq, and_true, true_and,
    List.set_cons_zero, List.set_cons_succ, Nat.reduceAdd, Nat.reduceSub, Int.reduceToNat, Int.reducePow, Int.reduceNeg, Int.reduceMul, Int.reduceAdd, Int.reduceSub, decide_eq_true_eq, Bool.not_eq_true', decide_eq_false_iff_not, exists_const, and_assoc, exists_eq, exists_eq', if_true, if_false, Bool.false_eq_true, Bool.true_eq_false, reduceCtorEq, not_true_eq_false, not_false_eq_true]
  refine isi_int_int ⟨_, rfl, iteT ?_⟩
  exact isi_int_bool ⟨_, rfl, q⟩
theorem sc_is_whole : FnScope ["thing"] ["thing"] (defScope s_is_whole) := ⟨rfl, rfl, rfl, by decide +kernel, rfl, by decide +kernel, by decide +kernel⟩
theorem ok_is_whole (T : Txt K mg a) : FnOk P w K mg base CX0 1 a.f_is_whole a.d_is_whole ["thing"] spWhole := by
  refine T.F_is_whole.ok sc_is_whole (fun vs H Q E h => ?_) (fun cdv A outer s H vs Q E hr h => ?_)
  · obtain ⟨x, rfl, q⟩ := h
    rfl
  obtain ⟨x, rfl, q⟩ := h
  exact ⟨t_is_whole K, (pss_one (ps_ret (pe_and (pe_callB call_isinst rfl T.z_isinstance PyProof.Rows.boot_isinstance (pa_cons (pv 0) (pa_cons (pe_bltn rfl T.z_int boot_int rfl) pa_nil))) (pe_one (pe_not (pe_callB call_isinst rfl T.z_isinstance PyProof.Rows.boot_isinstance (pa_cons (pv 0) (pa_cons (pe_bltn rfl T.z_bool boot_bool rfl) pa_nil)))))))),
    rd_is_whole q⟩

theorem Shows.same {H H' : Hp} (s : Same H H') {n : Nat} {t : Tr} {x : V} (h : Shows K H n t x) : Shows K H' n t x := by
  induction h with
  | int i => exact .int i
  | bl b => exact .bl b
  | str x => exact .str x
  | non => exact .non
  | lst h l _ ih => exact .lst (s.seq h) l ih
  | tup h l _ ih => exact .tup (s.tup h) l ih
/-- a tuple of a paper: its own place, its plan's, the plan's things, the weight, what the things show -/
structure Itm where
  t : Addr
  a : Addr
  xs : List V
  w : Int
  tr : List Tr
structure ItOk (K : PySem.W.Frag) (H : Hp) (it : Itm) : Prop where
  ht : H it.t = some (.tup [.ref it.a, .int it.w])
  ha : H it.a = some (.lst it.xs)
  len : it.xs.length = it.tr.length
  sh : ∀ (i : Nat) x t, it.xs[i]? = some x → it.tr[i]? = some t → Shows K H 1 t x
  w1 : 1 ≤ it.w
  w2 : it.w ≤ 100000000000000000000000000000
  small : it.xs.length ≤ 10
theorem ItOk.same {H H' : Hp} {it : Itm} (h : ItOk K H it) (s : Same H H') : ItOk K H' it :=
  ⟨s _ _ h.ht, s _ _ h.ha, h.len, fun i x t e1 e2 => Shows.same s (h.sh i x t e1 e2), h.w1, h.w2, h.small⟩
structure Pap (K : PySem.W.Frag) (H : Hp) (p : Addr) (its : List Itm) : Prop where
  hp : H p = some (.lst (its.map fun it => V.ref it.t))
  ok : ∀ it ∈ its, ItOk K H it
  l1 : 1 ≤ its.length
  l6 : its.length ≤ 6
theorem Pap.same {H H' : Hp} {p : Addr} {its : List Itm} (h : Pap K H p its) (s : Same H H') : Pap K H' p its := ⟨s _ _ h.hp, fun it hi => (h.ok it hi).same s, h.l1, h.l6⟩
def pre (its : List Itm) (i : Nat) : Int := ((its.take i).map fun it => it.w).sum
def key (it : Itm) : Int × List Tr := (it.w, it.tr)
theorem pre_succ {its : List Itm} {i : Nat} {it : Itm} (e : its[i]? = some it) : pre its (i + 1) = pre its i + it.w := by
  unfold pre
  rw [List.take_add_one, e, List.map_append, List.sum_append]
  simp
theorem pre_key {its jts : List Itm} (h : its.map key = jts.map key) (i : Nat) : pre its i = pre jts i := by
  unfold pre
  have e : (its.take i).map (fun it => it.w) = ((its.map key).take i).map Prod.fst := by rw [← List.map_take, List.map_map]; rfl
  have e' : (jts.take i).map (fun it => it.w) = ((jts.map key).take i).map Prod.fst := by rw [← List.map_take, List.map_map]; rfl
  rw [e, e', h]
theorem pre_mono {its : List Itm} (h : ∀ it ∈ its, 1 ≤ it.w) : ∀ (d i : Nat), pre its i ≤ pre its (i + d)
  | 0, i => Int.le_refl _
  | d + 1, i => by
    have ih := pre_mono h d i
    by_cases c : i + d < its.length
    · have e : its[i + d]? = some its[i + d] := List.getElem?_eq_getElem c
      rw [← Nat.add_assoc, pre_succ e]
      have := h _ (List.mem_of_getElem? e)
      omega
    · have e : pre its (i + (d + 1)) = pre its (i + d) := by
        unfold pre
        rw [List.take_of_length_le (by omega), List.take_of_length_le (by omega)]
      rw [e]
      exact ih
/-- only one tuple is picked -/
theorem pick_one {its : List Itm} (h : ∀ it ∈ its, 1 ≤ it.w) {n : Int} {i j : Nat} (i1 : pre its i ≤ n) (i2 : n < pre its (i + 1)) (j1 : pre its j ≤ n) (j2 : n < pre its (j + 1)) : i = j := by
  rcases Nat.lt_trichotomy i j with c | c | c
  · have := pre_mono h (j - (i + 1)) (i + 1)
    rw [show i + 1 + (j - (i + 1)) = j by omega] at this
    omega
  · exact c
  · have := pre_mono h (i - (j + 1)) (j + 1)
    rw [show j + 1 + (i - (j + 1)) = i by omega] at this
    omega
def tot (its : List Itm) : Int := pre its its.length
theorem Pap.totB {H : Hp} {p : Addr} {its : List Itm} (h : Pap K H p its) : 1 ≤ tot its ∧ tot its ≤ 600000000000000000000000000000 := by
  have z : ∀ (l : List Itm), (∀ it ∈ l, ItOk K H it) → (l.length : Int) ≤ (l.map fun it => it.w).sum ∧ (l.map fun it => it.w).sum ≤ l.length * 100000000000000000000000000000 := by
    intro l
    induction l with
    | nil => intro _; simp
    | cons x l ih =>
      intro hl
      obtain ⟨z1, z2⟩ := ih fun it hi => hl it (by simp [hi])
      have w1 := (hl x (by simp)).w1
      have w2 := (hl x (by simp)).w2
      rw [List.map_cons, List.sum_cons, List.length_cons]
      omega
  obtain ⟨z1, z2⟩ := z its h.ok
  have l1 := h.l1
  have l6 := h.l6
  unfold tot pre
  rw [List.take_length]
  omega
theorem Pap.shows {H : Hp} {p : Addr} {its : List Itm} (h : Pap K H p its) : Shows K H (3 + 1) (.lst ((its.map key).map fun k => .tup [.lst k.2, .int k.1])) (.ref p) := by
  refine .lst (SqL.of h.hp) (by rw [List.length_map, List.length_map, List.length_map]) fun i x t e1 e2 => ?_
  obtain ⟨it, ei, rfl⟩ := map_at e1
  obtain ⟨k, ek, rfl⟩ := map_at e2
  obtain ⟨it', ei', rfl⟩ := map_at ek
  rw [ei] at ei'
  cases ei'
  have o := h.ok it (mem_at ei)
  refine .tup (SqT.of o.ht) rfl fun j y u f1 f2 => ?_
  match j, f1, f2 with
  | 0, f1, f2 =>
    cases f1
    cases f2
    exact .lst (SqL.of o.ha) o.len o.sh
  | 1, f1, f2 =>
    cases f1
    cases f2
    exact .int _
def spWholeOf (K : PySem.W.Frag) : Sp := fun vs H Q _ => ∃ (p : Addr) (its : List Itm), vs = [.ref p] ∧ Pap K H p its ∧ ∀ H', Same H H' → Q (.int (tot its)) H'
def spPlayed (K : PySem.W.Frag) : Sp := fun vs H Q _ => ∃ (p : Addr) (its : List Itm) (n : Int), vs = [.ref p, .int n] ∧ Pap K H p its ∧ 0 ≤ n ∧ n < tot its ∧ ∀ (i : Nat) (it : Itm) (r : Addr) (H' : Hp), its[i]? = some it → pre its i ≤ n → n < pre its (i + 1) → Same H H' → H r = none → H' r = some (.lst it.xs) → Q (.ref r) H'
def spDue (K : PySem.W.Frag) : Sp := fun vs H Q _ => ∃ (p : Addr) (its : List Itm) (n : Int), vs = [.ref p, .int n] ∧ Pap K H p its ∧ 0 ≤ n ∧ n < tot its ∧ ∀ (i : Nat) (it : Itm), its[i]? = some it → pre its i ≤ n → n < pre its (i + 1) → Q (.ref it.a) H
def spCopy (K : PySem.W.Frag) : Sp := fun vs H Q _ => ∃ (p u c : Addr) (t : Int) (its : List Itm), vs = [.ref p] ∧ Pur H u c t ∧ Pap K (Off u c H) p its ∧ ∀ (r : Addr) (jts : List Itm) (H' : Hp), Same H H' → Pap K (Off u c H') r jts → jts.map key = its.map key → Q (.ref r) H'
def spPlanOf (K : PySem.W.Frag) : Sp := fun vs H Q _ => ∃ (p c : Addr) (t : Int), vs = [.ref p] ∧ Pur H p c t ∧ t < 10000 ∧ ∀ (r : Addr) (xs : List V) (tr : List Tr) (t' : Int) (H' : Hp), Same (Off p c H) (Off p c H') → Pur H' p c t' → t' ≤ t + 20 → Off p c H' r = some (.lst xs) → xs.length = tr.length → xs.length ≤ 10 → (∀ f o, Off p c H f = some o → r ≠ f ∧ ∀ (i : Nat) x u, xs[i]? = some x → tr[i]? = some u → Shows K (Off f f (Off p c H')) 1 u x) → Q (.ref r) H'
def spPaper (K : PySem.W.Frag) : Sp := fun vs H Q _ => ∃ (p c : Addr) (t : Int), vs = [.ref p] ∧ Pur H p c t ∧ t < 5000 ∧ ∀ (r : Addr) (its : List Itm) (t' : Int) (H' : Hp), Same (Off p c H) (Off p c H') → Pur H' p c t' → t' ≤ t + 200 → Pap K (Off p c H') r its → Q (.ref r) H'
theorem take_map_put {α β : Type} (f : α → β) {l : List α} {i : Nat} {x : α} (e : l[i]? = some x) : (l.take (i + 1)).map f = (l.take i).map f ++ [f x] := by
  rw [List.take_add_one, e, List.map_append]
  rfl
/-- the weights of a paper, by a comprehension -/
theorem weights_of {p : Addr} {its : List Itm} (ok : ∀ it ∈ its, ItOk K H it) (hp : H p = some (.lst (its.map fun it => V.ref it.t))) (l6 : its.length ≤ 6) {D : Addr} (hD : H D = none) {Q : VK} (q : ∀ H', Same H H' → H' D = some (.lst ((its.map fun it => it.w).map V.int)) → Q (.ref D) H') :
    CompIt (Itl K p) (gTup K 2 (gCons (gName 0) (gCons (gName 1) gNil))) tNoTest (tVar 1) D Q [none, none] (L2.upd H D (.lst [])) := by
  refine comp_listF (K := K) (xs := its.map fun it => V.ref it.t) (fun i ys σ H' => Same H H' ∧ ys = ((its.take i).map fun it => it.w).map V.int ∧ ∃ x y, σ = [x, y]) ⟨same_new hD _, rfl, _, _, rfl⟩ ?_ ?_ ?_
  · rintro i ys σ H' _ ⟨s, _⟩
    exact SqL.of (s _ _ hp)
  · rintro i x ys σ H1 hx hD1 ⟨s, rfl, u, v, rfl⟩
    obtain ⟨it, ei, rfl⟩ := map_at hx
    have o := (ok it (mem_at ei)).same s
    have li := (List.getElem?_eq_some_iff.mp ei).1
    simp only [rIn, rPopAt, rClear, rCatT, tBM0, rExtend, tComp_eq, rRep, rCount, rSum, rEqD, rNeD, rEqE, capS, gLst, tNoTest, tChain, gSub, tSl, tNoPart, tPart, rSlL, rSetL, rAppend, Option.bind_some, Option.bind_none, Option.join_some, Option.map_some, List.getElem?_cons_zero, List.getElem?_cons_succ, tRaise, tCallS, tTry, rCat, V.str.injEq, V.ty.injEq, rNeT, rEqT, tBM, tFor_eq, iRng1, iRng2, iList, iTup, tSeq, tNext, tAsg, gName, gTup, gCons, gNil, tCB, tCons, tNil, tVar, tC, tOp, tUn, tTest, tB, tTru, tAnd, tOr, tNot, tAndV, tOrV, tNotV, tIf, tIfS, tRet, tRetN, tDrop, tLst, tTup, tPar, tCall, rI, rI0, rU, rEq, rNe, rIxL, rIxT, L2.start, truV_int, truV_bl, scal_int, scal_bl, List.map_cons, List.map_nil, List.length_cons, List.length_nil, List.replicate, List.cons_append, List.nil_append, List.append_nil, List.getElem?_cons_zero, List.getElem?_cons_succ, Option.some.injEq, exists_eq_left', exists_eq_left, exists_and_left, List.cons.injEq, V.int.injEq, V.ref.injEq, V.bl.injEq, and_true, true_and, List.set_cons_zero, List.set_cons_succ, Nat.reduceAdd, Nat.reduceSub, Int.reduceToNat, Int.reducePow, Int.reduceNeg, Int.reduceMul, Int.reduceAdd, Int.reduceSub, decide_eq_true_eq, Bool.not_eq_true', decide_eq_false_iff_not, exists_const, and_assoc, exists_eq, exists_eq', if_true, if_false, Bool.false_eq_true, Bool.true_eq_false, reduceCtorEq, not_true_eq_false, not_false_eq_true]
    refine ⟨_, SqT.of o.ht, rfl, _, _, rfl, _, _, rfl, rfl, ?_⟩
    refine ⟨_, hD1, small1000 (by rw [List.length_map, List.length_map, List.length_take]; omega), _, upd_same, s.put hD, ?_⟩
    rw [take_map_put _ ei, List.map_append]
    rfl
  · rintro ys σ H1 hD1 ⟨s, rfl, u, v, rfl⟩
    rw [List.length_map, List.take_length] at hD1
    exact q H1 s hD1
def t_whole_of (K : PySem.W.Frag) : TS :=
  (tRet (tCB (rSum K) (tCons (tComp (iList K (tVar 0)) (gTup K 2 (gCons (gName 0) (gCons (gName 1) gNil))) tNoTest (tVar 1) [none, none]) tNil)))
theorem rd_whole_of {p : Addr} {its : List Itm} (B : Pap K H p its) (q : ∀ H', Same H H' → Q (.int (tot its)) H') :
    t_whole_of K { nx := fun _ H' => Q .non H', rt := Q } (L2.start ["paper"] [.ref p]) H := by
  unfold t_whole_of
  simp only [rIn, rPopAt, rClear, rCatT, tBM0, rExtend, tComp_eq, rRep, rCount, rSum, rEqD, rNeD, rEqE, capS, gLst, tNoTest, tChain, gSub, tSl, tNoPart, tPart, rSlL, rSetL, rAppend, Option.bind_some, Option.bind_none, Option.join_some, Option.map_some, List.getElem?_cons_zero, List.getElem?_cons_succ, tRaise, tCallS, tTry, rCat, V.str.injEq, V.ty.injEq, rNeT, rEqT, tBM, tFor_eq, iRng1, iRng2, iList, iTup, tSeq, tNext, tAsg, gName, gTup, gCons, gNil, tCB, tCons, tNil, tVar, tC, tOp, tUn, tTest, tB, tTru, tAnd, tOr, tNot, tAndV, tOrV, tNotV, tIf, tIfS, tRet, tRetN, tDrop, tLst, tTup, tPar, tCall, rI, rI0, rU, rEq, rNe, rIxL, rIxT, L2.start, truV_int, truV_bl, scal_int, scal_bl, List.map_cons, List.map_nil, List.length_cons, List.length_nil, List.replicate, List.cons_append, List.nil_append, List.append_nil, List.getElem?_cons_zero, List.getElem?_cons_succ, Option.some.injEq, exists_eq_left', exists_eq_left, exists_and_left, List.cons.injEq, V.int.injEq, V.ref.injEq, V.bl.injEq, and_true, true_and, List.set_cons_zero, List.set_cons_succ, Nat.reduceAdd, Nat.reduceSub, Int.reduceToNat, Int.reducePow, Int.reduceNeg, Int.reduceMul, Int.reduceAdd, Int.reduceSub, decide_eq_true_eq, Bool.not_eq_true', decide_eq_false_iff_not, exists_const, and_assoc, exists_eq, exists_eq', if_true, if_false, Bool.false_eq_true, Bool.true_eq_false, reduceCtorEq, not_true_eq_false, not_false_eq_true]
  refine ⟨⟨_, SqL.of B.hp⟩, fun D hD => ?_⟩
  refine weights_of B.ok B.hp B.l6 hD fun H1 s1 h1 => ?_
  refine ⟨_, rfl, _, SqL.of h1, ?_⟩
  have e : (its.map fun it => it.w).sum = tot its := by unfold tot pre; rw [List.take_length]
  rw [e]
  exact q _ s1
theorem sc_whole_of : FnScope ["paper"] ["paper"] (defScope s_whole_of) := ⟨rfl, rfl, rfl, by decide +kernel, rfl, by decide +kernel, by decide +kernel⟩
theorem ok_whole_of (T : Txt K mg a) : FnOk P w K mg base CX0 1 a.f_whole_of a.d_whole_of ["paper"] (spWholeOf K) := by
  refine T.F_whole_of.ok sc_whole_of (fun vs H Q E h => ?_) (fun cdv A outer s H vs Q E hr h => ?_)
  · obtain ⟨p, its, rfl, B, q⟩ := h
    rfl
  obtain ⟨p, its, rfl, B, q⟩ := h
  exact ⟨t_whole_of K, (pss_one (ps_ret (pe_callB (call_sum rfl) rfl T.z_sum PyProof.Rows.boot_sum (pa_cons (pe_comp (sc := defScope s_whole_of) (N := ["paper"]) (Nc := ["plan", "weight"]) (cap := [none, none]) rfl rfl rfl (.of (by decide +kernel)) (pi_list (pv 0)) (fun _ _ _ _ => (pg_tup rfl (pgs_cons (pg_name (i := 0) (show List.Nodup (["plan", "weight"] : List Str) from by decide) rfl (Or.inl rfl)) (pgs_cons (pg_name (i := 1) (show List.Nodup (["plan", "weight"] : List Str) from by decide) rfl (Or.inl rfl)) pgs_nil)))) (fun _ _ _ _ => pts_nil) (fun _ _ _ _ => (pv 1))) pa_nil)))),
    rd_whole_of B q⟩

/-- played, with its refusal -/
def spPlayedX (K : PySem.W.Frag) (a : Ad) : Sp := fun vs H Q E => ∃ (p : Addr) (its : List Itm) (n : Int), vs = [.ref p, .int n] ∧ Pap K H p its ∧ (n < 0 ∨ tot its ≤ n → E (.ref a.c_NoPlay) none H) ∧ (0 ≤ n → n < tot its → ∀ (r : Addr) (H' : Hp), Same H H' → Q (.ref r) H')
def t_played (K : PySem.W.Frag) (a : Ad) (E : XK) : TS :=
  (tSeq (tCut (tIfS (tAnd (tB (tCall spWhole [] E0 (tCons (tVar 1) tNil))) (tTest (tOp (rI0 fun i j => .bl (decide (j ≤ i))) (tVar 1) (tC (.int 0))))) (tSeq (tAsg (tVar 1) (gName 2))
  (tFor (iList K (tVar 0)) (gTup K 2 (gCons (gName 3) (gCons (gName 4) gNil)))
  (tSeq (tCut (tIfS (tTest (tOp (rI0 fun i j => .bl (decide (i < j))) (tVar 2) (tVar 4))) (tRet (tCB (fun xs H Q => ∃ p ys, xs = [.ref p] ∧ (SqL K H p ys ∨ SqT K H p ys) ∧ ∀ l, H l = none → Q (.ref l) (upd H l (.lst ys))) (tCons (tVar 3) tNil))) tNext))
  (tAsg (tOp (rI0 fun i j => .int (i - j)) (tVar 2) (tVar 4)) (gName 2))))) tNext))
  (tRaise (.ref a.c_NoPlay) E))
theorem rd_played {p : Addr} {its : List Itm} {n : Int} (B : Pap K H p its) (e0 : n < 0 ∨ tot its ≤ n → E (.ref a.c_NoPlay) none H) (q : 0 ≤ n → n < tot its → ∀ (r : Addr) (H' : Hp), Same H H' → Q (.ref r) H') :
    t_played K a E { nx := fun _ H' => Q .non H', rt := Q } (L2.start ["paper", "number", "left", "plan", "weight"] [.ref p, .int n]) H := by
  unfold t_played
  simp only [rIn, rPopAt, rClear, rCatT, tBM0, rExtend, tComp_eq, rRep, rCount, rSum, rEqD, rNeD, rEqE, capS, gLst, tNoTest, tChain, gSub, tSl, tNoPart, tPart, rSlL, rSetL, rAppend, Option.bind_some, Option.bind_none, Option.join_some, Option.map_some, List.getElem?_cons_zero, List.getElem?_cons_succ, tRaise, tCallS, tTry, rCat, V.str.injEq, V.ty.injEq, rNeT, rEqT, tBM, tFor_eq, iRng1, iRng2, iList, iTup, tSeq, tNext, tAsg, gName, gTup, gCons, gNil, tCB, tCons, tNil, tVar, tC, tOp, tUn, tTest, tB, tTru, tAnd, tOr, tNot, tAndV, tOrV, tNotV, tIf, tIfS, tRet, tRetN, tDrop, tLst, tTup, tPar, tCall, rI, rI0, rU, rEq, rNe, rIxL, rIxT, L2.start, truV_int, truV_bl, scal_int, scal_bl, List.map_cons, List.map_nil, List.length_cons, List.length_nil, List.replicate, List.cons_append, List.nil_append, List.append_nil, List.getElem?_cons_zero, List.getElem?_cons_succ, Option.some.injEq, exists_eq_left', exists_eq_left, exists_and_left, List.cons.injEq, V.int.injEq, V.ref.injEq, V.bl.injEq, and_true, true_and, List.set_cons_zero, List.set_cons_succ, Nat.reduceAdd, Nat.reduceSub, Int.reduceToNat, Int.reducePow, Int.reduceNeg, Int.reduceMul, Int.reduceAdd, Int.reduceSub, decide_eq_true_eq, Bool.not_eq_true', decide_eq_false_iff_not, exists_const, and_assoc, exists_eq, exists_eq', if_true, if_false, Bool.false_eq_true, Bool.true_eq_false, reduceCtorEq, not_true_eq_false, not_false_eq_true]
  refine ⟨fun σ H' => H' = H ∧ (n < 0 ∨ tot its ≤ n), ?_, ?_⟩
  · simp only [rIn, rPopAt, rClear, rCatT, tBM0, rExtend, tComp_eq, rRep, rCount, rSum, rEqD, rNeD, rEqE, capS, gLst, tNoTest, tChain, gSub, tSl, tNoPart, tPart, rSlL, rSetL, rAppend, Option.bind_some, Option.bind_none, Option.join_some, Option.map_some, List.getElem?_cons_zero, List.getElem?_cons_succ, tRaise, tCallS, tTry, rCat, V.str.injEq, V.ty.injEq, rNeT, rEqT, tBM, tFor_eq, iRng1, iRng2, iList, iTup, tSeq, tNext, tAsg, gName, gTup, gCons, gNil, tCB, tCons, tNil, tVar, tC, tOp, tUn, tTest, tB, tTru, tAnd, tOr, tNot, tAndV, tOrV, tNotV, tIf, tIfS, tRet, tRetN, tDrop, tLst, tTup, tPar, tCall, rI, rI0, rU, rEq, rNe, rIxL, rIxT, L2.start, truV_int, truV_bl, scal_int, scal_bl, List.map_cons, List.map_nil, List.length_cons, List.length_nil, List.replicate, List.cons_append, List.nil_append, List.append_nil, List.getElem?_cons_zero, List.getElem?_cons_succ, Option.some.injEq, exists_eq_left', exists_eq_left, exists_and_left, List.cons.injEq, V.int.injEq, V.ref.injEq, V.bl.injEq, and_true, true_and, List.set_cons_zero, List.set_cons_succ, Nat.reduceAdd, Nat.reduceSub, Int.reduceToNat, Int.reducePow, Int.reduceNeg, Int.reduceMul, Int.reduceAdd, Int.reduceSub, decide_eq_true_eq, Bool.not_eq_true', decide_eq_false_iff_not, exists_const, and_assoc, exists_eq, exists_eq', if_true, if_false, Bool.false_eq_true, Bool.true_eq_false, reduceCtorEq, not_true_eq_false, not_false_eq_true]
    refine ⟨_, rfl, true, rfl, iteT ?_⟩
    refine ite2 (fun n0 => ?_) (fun z => ⟨rfl, .inl (by omega)⟩)
    refine ⟨⟨_, SqL.of B.hp⟩, ?_⟩
    refine for_listF (K := K) (xs := its.map fun it => V.ref it.t) (fun i σ H' => H' = H ∧ pre its i ≤ n ∧ ∃ x y, σ = [some (.ref p), some (.int n), some (.int (n - pre its i)), x, y]) ⟨rfl, n0, _, _, by rw [show pre its 0 = 0 from rfl, Int.sub_zero]⟩ ?_ ?_ ?_
    · rintro i σ H' _ ⟨rfl, _⟩
      exact SqL.of B.hp
    · rintro i x σ H2 hx ⟨rfl, hi, u, v, rfl⟩
      obtain ⟨it, ei, rfl⟩ := map_at hx
      have o := B.ok it (mem_at ei)
      have e := pre_succ ei
      simp only [rIn, rPopAt, rClear, rCatT, tBM0, rExtend, tComp_eq, rRep, rCount, rSum, rEqD, rNeD, rEqE, capS, gLst, tNoTest, tChain, gSub, tSl, tNoPart, tPart, rSlL, rSetL, rAppend, Option.bind_some, Option.bind_none, Option.join_some, Option.map_some, List.getElem?_cons_zero, List.getElem?_cons_succ, tRaise, tCallS, tTry, rCat, V.str.injEq, V.ty.injEq, rNeT, rEqT, tBM, tFor_eq, iRng1, iRng2, iList, iTup, tSeq, tNext, tAsg, gName, gTup, gCons, gNil, tCB, tCons, tNil, tVar, tC, tOp, tUn, tTest, tB, tTru, tAnd, tOr, tNot, tAndV, tOrV, tNotV, tIf, tIfS, tRet, tRetN, tDrop, tLst, tTup, tPar, tCall, rI, rI0, rU, rEq, rNe, rIxL, rIxT, L2.start, truV_int, truV_bl, scal_int, scal_bl, List.map_cons, List.map_nil, List.length_cons, List.length_nil, List.replicate, List.cons_append, List.nil_append, List.append_nil, List.getElem?_cons_zero, List.getElem?_cons_succ, Option.some.injEq, exists_eq_left', exists_eq_left, exists_and_left, List.cons.injEq, V.int.injEq, V.ref.injEq, V.bl.injEq, and_true, true_and, List.set_cons_zero, List.set_cons_succ, Nat.reduceAdd, Nat.reduceSub, Int.reduceToNat, Int.reducePow, Int.reduceNeg, Int.reduceMul, Int.reduceAdd, Int.reduceSub, decide_eq_true_eq, Bool.not_eq_true', decide_eq_false_iff_not, exists_const, and_assoc, exists_eq, exists_eq', if_true, if_false, Bool.false_eq_true, Bool.true_eq_false, reduceCtorEq, not_true_eq_false, not_false_eq_true]
      refine ⟨_, SqT.of o.ht, rfl, _, _, rfl, _, _, rfl, rfl, ?_⟩
      refine ⟨fun σ H' => H' = H2 ∧ pre its (i + 1) ≤ n ∧ σ = [some (.ref p), some (.int n), some (.int (n - pre its i)), some (.ref it.a), some (.int it.w)], ?_, ?_⟩
      · simp only [rIn, rPopAt, rClear, rCatT, tBM0, rExtend, tComp_eq, rRep, rCount, rSum, rEqD, rNeD, rEqE, capS, gLst, tNoTest, tChain, gSub, tSl, tNoPart, tPart, rSlL, rSetL, rAppend, Option.bind_some, Option.bind_none, Option.join_some, Option.map_some, List.getElem?_cons_zero, List.getElem?_cons_succ, tRaise, tCallS, tTry, rCat, V.str.injEq, V.ty.injEq, rNeT, rEqT, tBM, tFor_eq, iRng1, iRng2, iList, iTup, tSeq, tNext, tAsg, gName, gTup, gCons, gNil, tCB, tCons, tNil, tVar, tC, tOp, tUn, tTest, tB, tTru, tAnd, tOr, tNot, tAndV, tOrV, tNotV, tIf, tIfS, tRet, tRetN, tDrop, tLst, tTup, tPar, tCall, rI, rI0, rU, rEq, rNe, rIxL, rIxT, L2.start, truV_int, truV_bl, scal_int, scal_bl, List.map_cons, List.map_nil, List.length_cons, List.length_nil, List.replicate, List.cons_append, List.nil_append, List.append_nil, List.getElem?_cons_zero, List.getElem?_cons_succ, Option.some.injEq, exists_eq_left', exists_eq_left, exists_and_left, List.cons.injEq, V.int.injEq, V.ref.injEq, V.bl.injEq, and_true, true_and, List.set_cons_zero, List.set_cons_succ, Nat.reduceAdd, Nat.reduceSub, Int.reduceToNat, Int.reducePow, Int.reduceNeg, Int.reduceMul, Int.reduceAdd, Int.reduceSub, decide_eq_true_eq, Bool.not_eq_true', decide_eq_false_iff_not, exists_const, and_assoc, exists_eq, exists_eq', if_true, if_false, Bool.false_eq_true, Bool.true_eq_false, reduceCtorEq, not_true_eq_false, not_false_eq_true]
        refine ite2 (fun c => ?_) (fun c => by omega)
        refine ⟨_, .inl (SqL.of o.ha), fun r hr => ?_⟩
        have li := (List.getElem?_eq_some_iff.mp ei).1
        have z3 := pre_mono (fun it h => (B.ok it h).w1) (its.length - (i + 1)) (i + 1)
        rw [show i + 1 + (its.length - (i + 1)) = its.length by omega] at z3
        exact q n0 (by unfold tot; omega) r _ ((Same.refl _).add hr)
      · rintro σ H3 ⟨rfl, c, rfl⟩
        simp only [rIn, rPopAt, rClear, rCatT, tBM0, rExtend, tComp_eq, rRep, rCount, rSum, rEqD, rNeD, rEqE, capS, gLst, tNoTest, tChain, gSub, tSl, tNoPart, tPart, rSlL, rSetL, rAppend, Option.bind_some, Option.bind_none, Option.join_some, Option.map_some, List.getElem?_cons_zero, List.getElem?_cons_succ, tRaise, tCallS, tTry, rCat, V.str.injEq, V.ty.injEq, rNeT, rEqT, tBM, tFor_eq, iRng1, iRng2, iList, iTup, tSeq, tNext, tAsg, gName, gTup, gCons, gNil, tCB, tCons, tNil, tVar, tC, tOp, tUn, tTest, tB, tTru, tAnd, tOr, tNot, tAndV, tOrV, tNotV, tIf, tIfS, tRet, tRetN, tDrop, tLst, tTup, tPar, tCall, rI, rI0, rU, rEq, rNe, rIxL, rIxT, L2.start, truV_int, truV_bl, scal_int, scal_bl, List.map_cons, List.map_nil, List.length_cons, List.length_nil, List.replicate, List.cons_append, List.nil_append, List.append_nil, List.getElem?_cons_zero, List.getElem?_cons_succ, Option.some.injEq, exists_eq_left', exists_eq_left, exists_and_left, List.cons.injEq, V.int.injEq, V.ref.injEq, V.bl.injEq, and_true, true_and, List.set_cons_zero, List.set_cons_succ, Nat.reduceAdd, Nat.reduceSub, Int.reduceToNat, Int.reducePow, Int.reduceNeg, Int.reduceMul, Int.reduceAdd, Int.reduceSub, decide_eq_true_eq, Bool.not_eq_true', decide_eq_false_iff_not, exists_const, and_assoc, exists_eq, exists_eq', if_true, if_false, Bool.false_eq_true, Bool.true_eq_false, reduceCtorEq, not_true_eq_false, not_false_eq_true]
        refine ⟨c, ?_⟩
        rw [e, show n - pre its i - it.w = n - (pre its i + it.w) by omega]
    · rintro σ H2 ⟨rfl, hi, u, v, rfl⟩
      rw [List.length_map] at hi
      exact ⟨rfl, .inr hi⟩
  · rintro σ H2 ⟨rfl, h⟩
    simp only [rIn, rPopAt, rClear, rCatT, tBM0, rExtend, tComp_eq, rRep, rCount, rSum, rEqD, rNeD, rEqE, capS, gLst, tNoTest, tChain, gSub, tSl, tNoPart, tPart, rSlL, rSetL, rAppend, Option.bind_some, Option.bind_none, Option.join_some, Option.map_some, List.getElem?_cons_zero, List.getElem?_cons_succ, tRaise, tCallS, tTry, rCat, V.str.injEq, V.ty.injEq, rNeT, rEqT, tBM, tFor_eq, iRng1, iRng2, iList, iTup, tSeq, tNext, tAsg, gName, gTup, gCons, gNil, tCB, tCons, tNil, tVar, tC, tOp, tUn, tTest, tB, tTru, tAnd, tOr, tNot, tAndV, tOrV, tNotV, tIf, tIfS, tRet, tRetN, tDrop, tLst, tTup, tPar, tCall, rI, rI0, rU, rEq, rNe, rIxL, rIxT, L2.start, truV_int, truV_bl, scal_int, scal_bl, List.map_cons, List.map_nil, List.length_cons, List.length_nil, List.replicate, List.cons_append, List.nil_append, List.append_nil, List.getElem?_cons_zero, List.getElem?_cons_succ, Option.some.injEq, exists_eq_left', exists_eq_left, exists_and_left, List.cons.injEq, V.int.injEq, V.ref.injEq, V.bl.injEq, and_true, true_and, List.set_cons_zero, List.set_cons_succ, Nat.reduceAdd, Nat.reduceSub, Int.reduceToNat, Int.reducePow, Int.reduceNeg, Int.reduceMul, Int.reduceAdd, Int.reduceSub, decide_eq_true_eq, Bool.not_eq_true', decide_eq_false_iff_not, exists_const, and_assoc, exists_eq, exists_eq', if_true, if_false, Bool.false_eq_true, Bool.true_eq_false, reduceCtorEq, not_true_eq_false, not_false_eq_true]
    exact e0 h
theorem sc_played : FnScope ["paper", "number", "left", "plan", "weight"] ["paper", "number"] (defScope s_played) := ⟨rfl, rfl, rfl, by decide +kernel, rfl, by decide +kernel, by decide +kernel⟩
theorem ok_played (T : Txt K mg a) : FnOk P w K mg base (CXE P w) 2 a.f_played a.d_played ["paper", "number"] (spPlayedX K a) := by
  have G_is_whole := ok_is_whole (P := P) (w := w) (base := base) T
  refine T.F_played.okX sc_played (fun vs H Q E h => ?_) (fun cdv A outer s H vs Q E hr h => ?_)
  · obtain ⟨p, its, n, rfl, B, e0, q⟩ := h
    rfl
  obtain ⟨p, its, n, rfl, B, e0, q⟩ := h
  exact ⟨t_played K a E, (pss_cons (ps_cut (ps_if (PW.pt (pw_and (pt_val (pe_call G_is_whole (hr.mono (by decide)) rfl T.m_is_whole T.F_is_whole.kp T.b_is_whole .nil pass0 (pa_cons (pv 1) pa_nil))) (pw_and1 (pt_cmpR op_ge (pv 1) pe_int (nomark _))))) (pss_cons (ps_set (i := 2) sc_played.nd rfl (Or.inl rfl) (pv 1))
  (pss_one (ps_for PassesOwn.leaving rfl (pi_list (pv 0)) (pg_tup rfl (pgs_cons (pg_name (i := 3) sc_played.nd rfl (Or.inl rfl)) (pgs_cons (pg_name (i := 4) sc_played.nd rfl (Or.inl rfl)) pgs_nil)))
  (pss_cons (ps_cut (ps_if (pt_cmpR op_lt (pv 2) (pv 4) (nomark _)) (pss_one (ps_ret (pe_callTy call_list_of rfl T.z_list boot_list (pa_cons (pv 3) pa_nil)))) pss_nil))
  (pss_one (ps_set (i := 2) sc_played.nd rfl (Or.inl rfl) (pe_op op_sub (pv 2) (pv 4)))))))) pss_nil))
  (pss_one (ps_raise T.m_NoPlay T.x_NoPlay rfl rfl throwsX))),
    rd_played B e0 q⟩

theorem at3' {r : Int} (h0 : 0 ≤ r) (h1 : r < 3) : ∃ v : Int, atI [V.int 4, V.int 4, V.int 100000000000000000000000000000] r = some (.int v) ∧ 0 < v ∧ v ≤ 100000000000000000000000000000 := by
  have : r = 0 ∨ r = 1 ∨ r = 2 := by omega
  rcases this with rfl | rfl | rfl
  · exact ⟨4, rfl, by decide, by decide⟩
  · exact ⟨4, rfl, by decide, by decide⟩
  · exact ⟨100000000000000000000000000000, rfl, by decide, by decide⟩
theorem pow29 : CPow 10 29 := ⟨by decide, by decide, by decide⟩
theorem off_put {H : Hp} {p c b : Addr} {t : Int} {o : HO} (P : Pur H p c t) (hb : H b = none) : Pur (L2.upd H b o) p c t ∧ Same (Off p c H) (Off p c (L2.upd H b o)) ∧ Off p c (L2.upd H b o) b = some o := by
  have n := P.new hb
  refine ⟨P.upd n.1 n.2, ?_, ?_⟩
  · rw [off_upd n.1 n.2]
    exact same_new (off_new hb) _
  · rw [off_upd n.1 n.2]
    exact upd_same
theorem shows_at {ns : List Int} : ∀ (i : Nat) x u, (ns.map V.int)[i]? = some x → (ns.map Tr.int)[i]? = some u → Shows K H 1 u x := fun i x u e1 e2 => by
  obtain ⟨a, ha, rfl⟩ := map_at e1
  obtain ⟨b, hb, rfl⟩ := map_at e2
  rw [ha] at hb
  cases hb
  exact .int _
/-- [draw(..) for k in range(n)] -/
theorem draws {p c : Addr} {t m n : Int} (hP : Pur H p c t) (t1 : t < 20000) (m0 : 0 < m) (m1 : m ≤ 1000) (n1 : n < 7) {D : Addr} (hD : H D = none) {Q : VK}
    (q : ∀ (ns : List Int) (t' : Int) (H' : Hp), Same (Off p c H) (Off p c H') → Pur H' p c t' → t' ≤ t + 7 → Off p c H' D = some (.lst (ns.map V.int)) → ns.length ≤ 6 → Q (.ref D) H') :
    CompIt (Itr 0 n.toNat) (gName 0) tNoTest (tCall spDraw [] E0 (tCons (tVar 1) (tCons (tC (.int m)) tNil))) D Q [none, some (.ref p)] (L2.upd H D (.lst [])) := by
  have nD := hP.new hD
  refine comp_rangeF (fun i ys σ H' => ∃ (ns : List Int) (u : Int), ys = ns.map V.int ∧ ns.length = i ∧ Same (Off p c H) (Off p c H') ∧ Pur H' p c u ∧ u ≤ t + i ∧ ∃ k, σ = [k, some (.ref p)]) ?_ ?_ ?_
  · refine ⟨[], t, rfl, rfl, ?_, hP.upd nD.1 nD.2, by omega, _, rfl⟩
    rw [off_upd nD.1 nD.2]
    exact same_new (off_new hD) _
  · rintro i ys σ H' hi hD' ⟨ns, u, rfl, ln, s, P1, hu, k, rfl⟩
    simp only [rIn, rPopAt, rClear, rCatT, tBM0, rExtend, tComp_eq, rRep, rCount, rSum, rEqD, rNeD, rEqE, capS, gLst, tNoTest, tChain, gSub, tSl, tNoPart, tPart, rSlL, rSetL, rAppend, Option.bind_some, Option.bind_none, Option.join_some, Option.map_some, List.getElem?_cons_zero, List.getElem?_cons_succ, tRaise, tCallS, tTry, rCat, V.str.injEq, V.ty.injEq, rNeT, rEqT, tBM, tFor_eq, iRng1, iRng2, iList, iTup, tSeq, tNext, tAsg, gName, gTup, gCons, gNil, tCB, tCons, tNil, tVar, tC, tOp, tUn, tTest, tB, tTru, tAnd, tOr, tNot, tAndV, tOrV, tNotV, tIf, tIfS, tRet, tRetN, tDrop, tLst, tTup, tPar, tCall, rI, rI0, rU, rEq, rNe, rIxL, rIxT, L2.start, truV_int, truV_bl, scal_int, scal_bl, List.map_cons, List.map_nil, List.length_cons, List.length_nil, List.replicate, List.cons_append, List.nil_append, List.append_nil, List.getElem?_cons_zero, List.getElem?_cons_succ, Option.some.injEq, exists_eq_left', exists_eq_left, exists_and_left, List.cons.injEq, V.int.injEq, V.ref.injEq, V.bl.injEq, and_true, true_and, List.set_cons_zero, List.set_cons_succ, Nat.reduceAdd, Nat.reduceSub, Int.reduceToNat, Int.reducePow, Int.reduceNeg, Int.reduceMul, Int.reduceAdd, Int.reduceSub, decide_eq_true_eq, Bool.not_eq_true', decide_eq_false_iff_not, exists_const, and_assoc, exists_eq, exists_eq', if_true, if_false, Bool.false_eq_true, Bool.true_eq_false, reduceCtorEq, not_true_eq_false, not_false_eq_true]
    have u0 := P1.t0
    refine ⟨p, c, u, m, rfl, P1, by omega, m0, by omega, fun v H4 v0 v1 o4 P4 => ?_⟩
    have oD : Off p c H4 D = some (.lst (ns.map V.int)) := by rw [o4, off_at nD.1 nD.2]; exact hD'
    refine ⟨_, off_le _ _ _ _ _ oD, small1000 (by rw [List.length_map]; omega), _, upd_same, ns ++ [v], ?_, by rw [List.length_append, ln]; rfl, ?_, _, P4.upd nD.1 nD.2, by omega⟩
    · rw [List.map_append]
      rfl
    · rw [off_upd nD.1 nD.2, o4]
      exact s.put (off_new hD)
  · rintro ys σ H' hD' ⟨ns, u, rfl, ln, s, P1, hu, k, rfl⟩
    exact q ns u H' s P1 (by omega) (by rw [off_at nD.1 nD.2]; exact hD') (by omega)
def t__law_plan_of : TS :=
  (tSeq (tAsg (tCall spDraw [] E0 (tCons (tVar 0) (tCons (tC (.int 3)) tNil))) (gName 1))
  (tSeq (tAsg (tCall spDraw [] E0 (tCons (tVar 0) (tCons (tC (.int 6)) tNil))) (gName 2))
  (tSeq (tCut (tIfS (tTest (tOp rEq (tVar 1) (tC (.int 0)))) (tRet (tOp rCat (tLst (tCons (tC (.int 0)) tNil)) (tComp (iRng1 (tCons (tVar 2) tNil)) (gName 0) tNoTest (tCall spDraw [] E0 (tCons (tVar 1) (tCons (tC (.int 60)) tNil))) [none, some 0]))) tNext))
  (tSeq (tCut (tIfS (tTest (tOp rEq (tVar 1) (tC (.int 1)))) (tRet (tComp (iRng1 (tCons (tVar 2) tNil)) (gName 0) tNoTest (tTup (tCons (tCall spDraw [] E0 (tCons (tVar 1) (tCons (tC (.int 60)) tNil))) (tCons (tCall spDraw [] E0 (tCons (tVar 1) (tCons (tC (.int 60)) tNil))) tNil))) [none, some 0])) tNext))
  (tRet (tComp (iRng1 (tCons (tVar 2) tNil)) (gName 0) tNoTest (tCall spDraw [] E0 (tCons (tVar 1) (tCons (tC (.int 61)) tNil))) [none, some 0]))))))
theorem rd__law_plan_of {p c : Addr} {t : Int} (hP : Pur H p c t) (t1 : t < 10000)
    (q : ∀ (r : Addr) (xs : List V) (tr : List Tr) (t' : Int) (H' : Hp), Same (Off p c H) (Off p c H') → Pur H' p c t' → t' ≤ t + 20 → Off p c H' r = some (.lst xs) → xs.length = tr.length → xs.length ≤ 10 → (∀ f o, Off p c H f = some o → r ≠ f ∧ ∀ (i : Nat) x u, xs[i]? = some x → tr[i]? = some u → Shows K (Off f f (Off p c H')) 1 u x) → Q (.ref r) H') :
    t__law_plan_of { nx := fun _ H' => Q .non H', rt := Q } (L2.start ["_law_purse_here", "_law_kind", "_law_many"] [.ref p]) H := by
  unfold t__law_plan_of
  have t0 := hP.t0
  simp only [rIn, rPopAt, rClear, rCatT, tBM0, rExtend, tComp_eq, rRep, rCount, rSum, rEqD, rNeD, rEqE, capS, gLst, tNoTest, tChain, gSub, tSl, tNoPart, tPart, rSlL, rSetL, rAppend, Option.bind_some, Option.bind_none, Option.join_some, Option.map_some, List.getElem?_cons_zero, List.getElem?_cons_succ, tRaise, tCallS, tTry, rCat, V.str.injEq, V.ty.injEq, rNeT, rEqT, tBM, tFor_eq, iRng1, iRng2, iList, iTup, tSeq, tNext, tAsg, gName, gTup, gCons, gNil, tCB, tCons, tNil, tVar, tC, tOp, tUn, tTest, tB, tTru, tAnd, tOr, tNot, tAndV, tOrV, tNotV, tIf, tIfS, tRet, tRetN, tDrop, tLst, tTup, tPar, tCall, rI, rI0, rU, rEq, rNe, rIxL, rIxT, L2.start, truV_int, truV_bl, scal_int, scal_bl, List.map_cons, List.map_nil, List.length_cons, List.length_nil, List.replicate, List.cons_append, List.nil_append, List.append_nil, List.getElem?_cons_zero, List.getElem?_cons_succ, Option.some.injEq, exists_eq_left', exists_eq_left, exists_and_left, List.cons.injEq, V.int.injEq, V.ref.injEq, V.bl.injEq, and_true, true_and, List.set_cons_zero, List.set_cons_succ, Nat.reduceAdd, Nat.reduceSub, Int.reduceToNat, Int.reducePow, Int.reduceNeg, Int.reduceMul, Int.reduceAdd, Int.reduceSub, decide_eq_true_eq, Bool.not_eq_true', decide_eq_false_iff_not, exists_const, and_assoc, exists_eq, exists_eq', if_true, if_false, Bool.false_eq_true, Bool.true_eq_false, reduceCtorEq, not_true_eq_false, not_false_eq_true]
  refine ⟨p, c, t, 3, rfl, hP, by omega, by decide, by decide, fun kd H1 k0 k1 o1 P1 => ?_⟩
  refine ⟨p, c, t + 1, 6, rfl, P1, by omega, by decide, by decide, fun mn H2 m0 m1 o2 P2 => ?_⟩
  have o20 : Off p c H2 = Off p c H := o2.trans o1
  simp only [rIn, rPopAt, rClear, rCatT, tBM0, rExtend, tComp_eq, rRep, rCount, rSum, rEqD, rNeD, rEqE, capS, gLst, tNoTest, tChain, gSub, tSl, tNoPart, tPart, rSlL, rSetL, rAppend, Option.bind_some, Option.bind_none, Option.join_some, Option.map_some, List.getElem?_cons_zero, List.getElem?_cons_succ, tRaise, tCallS, tTry, rCat, V.str.injEq, V.ty.injEq, rNeT, rEqT, tBM, tFor_eq, iRng1, iRng2, iList, iTup, tSeq, tNext, tAsg, gName, gTup, gCons, gNil, tCB, tCons, tNil, tVar, tC, tOp, tUn, tTest, tB, tTru, tAnd, tOr, tNot, tAndV, tOrV, tNotV, tIf, tIfS, tRet, tRetN, tDrop, tLst, tTup, tPar, tCall, rI, rI0, rU, rEq, rNe, rIxL, rIxT, L2.start, truV_int, truV_bl, scal_int, scal_bl, List.map_cons, List.map_nil, List.length_cons, List.length_nil, List.replicate, List.cons_append, List.nil_append, List.append_nil, List.getElem?_cons_zero, List.getElem?_cons_succ, Option.some.injEq, exists_eq_left', exists_eq_left, exists_and_left, List.cons.injEq, V.int.injEq, V.ref.injEq, V.bl.injEq, and_true, true_and, List.set_cons_zero, List.set_cons_succ, Nat.reduceAdd, Nat.reduceSub, Int.reduceToNat, Int.reducePow, Int.reduceNeg, Int.reduceMul, Int.reduceAdd, Int.reduceSub, decide_eq_true_eq, Bool.not_eq_true', decide_eq_false_iff_not, exists_const, and_assoc, exists_eq, exists_eq', if_true, if_false, Bool.false_eq_true, Bool.true_eq_false, reduceCtorEq, not_true_eq_false, not_false_eq_true]
  refine ⟨fun σ H' => H' = H2 ∧ σ = [some (.ref p), some (.int kd), some (.int mn)], ?_, ?_⟩
  · simp only [rIn, rPopAt, rClear, rCatT, tBM0, rExtend, tComp_eq, rRep, rCount, rSum, rEqD, rNeD, rEqE, capS, gLst, tNoTest, tChain, gSub, tSl, tNoPart, tPart, rSlL, rSetL, rAppend, Option.bind_some, Option.bind_none, Option.join_some, Option.map_some, List.getElem?_cons_zero, List.getElem?_cons_succ, tRaise, tCallS, tTry, rCat, V.str.injEq, V.ty.injEq, rNeT, rEqT, tBM, tFor_eq, iRng1, iRng2, iList, iTup, tSeq, tNext, tAsg, gName, gTup, gCons, gNil, tCB, tCons, tNil, tVar, tC, tOp, tUn, tTest, tB, tTru, tAnd, tOr, tNot, tAndV, tOrV, tNotV, tIf, tIfS, tRet, tRetN, tDrop, tLst, tTup, tPar, tCall, rI, rI0, rU, rEq, rNe, rIxL, rIxT, L2.start, truV_int, truV_bl, scal_int, scal_bl, List.map_cons, List.map_nil, List.length_cons, List.length_nil, List.replicate, List.cons_append, List.nil_append, List.append_nil, List.getElem?_cons_zero, List.getElem?_cons_succ, Option.some.injEq, exists_eq_left', exists_eq_left, exists_and_left, List.cons.injEq, V.int.injEq, V.ref.injEq, V.bl.injEq, and_true, true_and, List.set_cons_zero, List.set_cons_succ, Nat.reduceAdd, Nat.reduceSub, Int.reduceToNat, Int.reducePow, Int.reduceNeg, Int.reduceMul, Int.reduceAdd, Int.reduceSub, decide_eq_true_eq, Bool.not_eq_true', decide_eq_false_iff_not, exists_const, and_assoc, exists_eq, exists_eq', if_true, if_false, Bool.false_eq_true, Bool.true_eq_false, reduceCtorEq, not_true_eq_false, not_false_eq_true]
    refine ite2 (fun _ => ?_) (fun _ => trivial)
    refine ⟨by decide, fun e he => ?_⟩
    obtain ⟨P3, s3, h3⟩ := off_put (o := .lst [V.int 0]) P2 he
    generalize L2.upd H2 e (.lst [V.int 0]) = H3 at P3 s3 h3 ⊢
    refine ⟨by omega, by omega, fun D hD => ?_⟩
    refine draws P3 (by omega) (by decide) (by decide) (by omega) hD fun ns t4 H4 s4 P4 ht4 hD4 ln => ?_
    have h4 := s4 _ _ h3
    have big : (100 : Nat) ≤ sizeLine := by decide
    refine ⟨_, rfl, _, off_le _ _ _ _ _ h4, _, off_le _ _ _ _ _ hD4, by rw [List.length_map]; show 1 + ns.length ≤ sizeLine; omega, fun r hr => ?_⟩
    obtain ⟨P5, s5, h5⟩ := off_put (o := .lst ([V.int 0] ++ ns.map V.int)) P4 hr
    have s := (s3.trans s4).trans s5
    rw [o20] at s
    refine q r ((0 :: ns).map V.int) ((0 :: ns).map Tr.int) t4 _ s P5 (by omega) h5 (by rw [List.length_map, List.length_map]) (by rw [List.length_map, List.length_cons]; omega) fun f o hf => ⟨?_, shows_at⟩
    have z := (s3.trans s4) _ _ (show Off p c H2 f = some o by rw [o20]; exact hf)
    exact (ne_of_none z (off_new hr)).symm
  · rintro σ H' ⟨e, rfl⟩
    rw [e]
    simp only [rIn, rPopAt, rClear, rCatT, tBM0, rExtend, tComp_eq, rRep, rCount, rSum, rEqD, rNeD, rEqE, capS, gLst, tNoTest, tChain, gSub, tSl, tNoPart, tPart, rSlL, rSetL, rAppend, Option.bind_some, Option.bind_none, Option.join_some, Option.map_some, List.getElem?_cons_zero, List.getElem?_cons_succ, tRaise, tCallS, tTry, rCat, V.str.injEq, V.ty.injEq, rNeT, rEqT, tBM, tFor_eq, iRng1, iRng2, iList, iTup, tSeq, tNext, tAsg, gName, gTup, gCons, gNil, tCB, tCons, tNil, tVar, tC, tOp, tUn, tTest, tB, tTru, tAnd, tOr, tNot, tAndV, tOrV, tNotV, tIf, tIfS, tRet, tRetN, tDrop, tLst, tTup, tPar, tCall, rI, rI0, rU, rEq, rNe, rIxL, rIxT, L2.start, truV_int, truV_bl, scal_int, scal_bl, List.map_cons, List.map_nil, List.length_cons, List.length_nil, List.replicate, List.cons_append, List.nil_append, List.append_nil, List.getElem?_cons_zero, List.getElem?_cons_succ, Option.some.injEq, exists_eq_left', exists_eq_left, exists_and_left, List.cons.injEq, V.int.injEq, V.ref.injEq, V.bl.injEq, and_true, true_and, List.set_cons_zero, List.set_cons_succ, Nat.reduceAdd, Nat.reduceSub, Int.reduceToNat, Int.reducePow, Int.reduceNeg, Int.reduceMul, Int.reduceAdd, Int.reduceSub, decide_eq_true_eq, Bool.not_eq_true', decide_eq_false_iff_not, exists_const, and_assoc, exists_eq, exists_eq', if_true, if_false, Bool.false_eq_true, Bool.true_eq_false, reduceCtorEq, not_true_eq_false, not_false_eq_true]
    refine ⟨fun σ H' => H' = H2 ∧ σ = [some (.ref p), some (.int kd), some (.int mn)], ?_, ?_⟩
    · simp only [rIn, rPopAt, rClear, rCatT, tBM0, rExtend, tComp_eq, rRep, rCount, rSum, rEqD, rNeD, rEqE, capS, gLst, tNoTest, tChain, gSub, tSl, tNoPart, tPart, rSlL, rSetL, rAppend, Option.bind_some, Option.bind_none, Option.join_some, Option.map_some, List.getElem?_cons_zero, List.getElem?_cons_succ, tRaise, tCallS, tTry, rCat, V.str.injEq, V.ty.injEq, rNeT, rEqT, tBM, tFor_eq, iRng1, iRng2, iList, iTup, tSeq, tNext, tAsg, gName, gTup, gCons, gNil, tCB, tCons, tNil, tVar, tC, tOp, tUn, tTest, tB, tTru, tAnd, tOr, tNot, tAndV, tOrV, tNotV, tIf, tIfS, tRet, tRetN, tDrop, tLst, tTup, tPar, tCall, rI, rI0, rU, rEq, rNe, rIxL, rIxT, L2.start, truV_int, truV_bl, scal_int, scal_bl, List.map_cons, List.map_nil, List.length_cons, List.length_nil, List.replicate, List.cons_append, List.nil_append, List.append_nil, List.getElem?_cons_zero, List.getElem?_cons_succ, Option.some.injEq, exists_eq_left', exists_eq_left, exists_and_left, List.cons.injEq, V.int.injEq, V.ref.injEq, V.bl.injEq, and_true, true_and, List.set_cons_zero, List.set_cons_succ, Nat.reduceAdd, Nat.reduceSub, Int.reduceToNat, Int.reducePow, Int.reduceNeg, Int.reduceMul, Int.reduceAdd, Int.reduceSub, decide_eq_true_eq, Bool.not_eq_true', decide_eq_false_iff_not, exists_const, and_assoc, exists_eq, exists_eq', if_true, if_false, Bool.false_eq_true, Bool.true_eq_false, reduceCtorEq, not_true_eq_false, not_false_eq_true]
      refine ite2 (fun _ => ?_) (fun _ => trivial)
      refine ⟨by omega, by omega, fun D hD => ?_⟩
      have nD := P2.new hD
      refine comp_rangeF (fun i ys σ H' => ∃ (as : List Addr) (ns : List (Int × Int)) (u : Int), ys = as.map V.ref ∧ as.length = i ∧ ns.length = i ∧ Tps (fun q => [.int q.1, .int q.2]) (Off p c H') as ns ∧ (∀ b ∈ as, Off p c H2 b = none) ∧ Same (Off p c H2) (Off p c H') ∧ Pur H' p c u ∧ u ≤ t + 2 + 2 * i ∧ ∃ k, σ = [k, some (.ref p)]) ?_ ?_ ?_
      · refine ⟨[], [], t + 1 + 1, rfl, rfl, rfl, .nil, by simp, ?_, P2.upd nD.1 nD.2, by omega, _, rfl⟩
        rw [off_upd nD.1 nD.2]
        exact same_new (off_new hD) _
      · rintro i ys σ H3 hi hD3 ⟨as, ns, u, rfl, la, ln, hT, hfr, s3, P3, hu, k, rfl⟩
        have u0 := P3.t0
        simp only [rIn, rPopAt, rClear, rCatT, tBM0, rExtend, tComp_eq, rRep, rCount, rSum, rEqD, rNeD, rEqE, capS, gLst, tNoTest, tChain, gSub, tSl, tNoPart, tPart, rSlL, rSetL, rAppend, Option.bind_some, Option.bind_none, Option.join_some, Option.map_some, List.getElem?_cons_zero, List.getElem?_cons_succ, tRaise, tCallS, tTry, rCat, V.str.injEq, V.ty.injEq, rNeT, rEqT, tBM, tFor_eq, iRng1, iRng2, iList, iTup, tSeq, tNext, tAsg, gName, gTup, gCons, gNil, tCB, tCons, tNil, tVar, tC, tOp, tUn, tTest, tB, tTru, tAnd, tOr, tNot, tAndV, tOrV, tNotV, tIf, tIfS, tRet, tRetN, tDrop, tLst, tTup, tPar, tCall, rI, rI0, rU, rEq, rNe, rIxL, rIxT, L2.start, truV_int, truV_bl, scal_int, scal_bl, List.map_cons, List.map_nil, List.length_cons, List.length_nil, List.replicate, List.cons_append, List.nil_append, List.append_nil, List.getElem?_cons_zero, List.getElem?_cons_succ, Option.some.injEq, exists_eq_left', exists_eq_left, exists_and_left, List.cons.injEq, V.int.injEq, V.ref.injEq, V.bl.injEq, and_true, true_and, List.set_cons_zero, List.set_cons_succ, Nat.reduceAdd, Nat.reduceSub, Int.reduceToNat, Int.reducePow, Int.reduceNeg, Int.reduceMul, Int.reduceAdd, Int.reduceSub, decide_eq_true_eq, Bool.not_eq_true', decide_eq_false_iff_not, exists_const, and_assoc, exists_eq, exists_eq', if_true, if_false, Bool.false_eq_true, Bool.true_eq_false, reduceCtorEq, not_true_eq_false, not_false_eq_true]
        refine ⟨p, c, u, 60, rfl, P3, by omega, by decide, by decide, fun v1 H4 _ _ o4 P4 => ?_⟩
        refine ⟨p, c, u + 1, 60, rfl, P4, by omega, by decide, by decide, fun v2 H5 _ _ o5 P5 => ?_⟩
        have o53 : Off p c H5 = Off p c H3 := o5.trans o4
        simp only [rIn, rPopAt, rClear, rCatT, tBM0, rExtend, tComp_eq, rRep, rCount, rSum, rEqD, rNeD, rEqE, capS, gLst, tNoTest, tChain, gSub, tSl, tNoPart, tPart, rSlL, rSetL, rAppend, Option.bind_some, Option.bind_none, Option.join_some, Option.map_some, List.getElem?_cons_zero, List.getElem?_cons_succ, tRaise, tCallS, tTry, rCat, V.str.injEq, V.ty.injEq, rNeT, rEqT, tBM, tFor_eq, iRng1, iRng2, iList, iTup, tSeq, tNext, tAsg, gName, gTup, gCons, gNil, tCB, tCons, tNil, tVar, tC, tOp, tUn, tTest, tB, tTru, tAnd, tOr, tNot, tAndV, tOrV, tNotV, tIf, tIfS, tRet, tRetN, tDrop, tLst, tTup, tPar, tCall, rI, rI0, rU, rEq, rNe, rIxL, rIxT, L2.start, truV_int, truV_bl, scal_int, scal_bl, List.map_cons, List.map_nil, List.length_cons, List.length_nil, List.replicate, List.cons_append, List.nil_append, List.append_nil, List.getElem?_cons_zero, List.getElem?_cons_succ, Option.some.injEq, exists_eq_left', exists_eq_left, exists_and_left, List.cons.injEq, V.int.injEq, V.ref.injEq, V.bl.injEq, and_true, true_and, List.set_cons_zero, List.set_cons_succ, Nat.reduceAdd, Nat.reduceSub, Int.reduceToNat, Int.reducePow, Int.reduceNeg, Int.reduceMul, Int.reduceAdd, Int.reduceSub, decide_eq_true_eq, Bool.not_eq_true', decide_eq_false_iff_not, exists_const, and_assoc, exists_eq, exists_eq', if_true, if_false, Bool.false_eq_true, Bool.true_eq_false, reduceCtorEq, not_true_eq_false, not_false_eq_true]
        refine ⟨by decide, fun d hd => ?_⟩
        obtain ⟨P6, s6, h6⟩ := off_put (o := .tup [V.int v1, V.int v2]) P5 hd
        rw [o53] at s6
        generalize L2.upd H5 d (.tup [V.int v1, V.int v2]) = H6 at P6 s6 h6 ⊢
        have oD : Off p c H3 D = some (.lst (as.map V.ref)) := by rw [off_at nD.1 nD.2]; exact hD3
        have oD6 := s6 _ _ oD
        refine ⟨_, off_le _ _ _ _ _ oD6, small1000 (by rw [List.length_map]; omega), _, upd_same, as ++ [d], ?_, by rw [List.length_append, la]; rfl, ns ++ [(v1, v2)], by rw [List.length_append, ln]; rfl, ?_, ?_, ?_, _, P6.upd nD.1 nD.2, by omega⟩
        · rw [List.map_append]
          rfl
        · rw [off_upd nD.1 nD.2]
          refine hT.put (fun x w hx => ?_) ?_
          · have hx6 := s6 _ _ hx
            rw [upd_ne (ne_of hx6 oD6 (by simp))]
            exact hx6
          · rw [upd_ne (ne_of h6 oD6 (by simp))]
            exact h6
        · intro b hb
          rcases List.mem_append.mp hb with h | h
          · exact hfr b h
          · have e : b = d := by simpa using h
            rw [e]
            refine s3.free ?_
            rw [← o53]
            exact off_new hd
        · rw [off_upd nD.1 nD.2]
          exact (s3.trans s6).put (off_new hD)
      · rintro ys σ H3 hD3 ⟨as, ns, u, rfl, la, ln, hT, hfr, s3, P3, hu, k, rfl⟩
        rw [o20] at s3
        refine q D (as.map V.ref) (ns.map fun q => .tup [.int q.1, .int q.2]) u H3 s3 P3 (by omega) (by rw [off_at nD.1 nD.2]; exact hD3) (by rw [List.length_map, List.length_map]; omega) (by rw [List.length_map]; omega) fun f o hf => ?_
        have zf : Off p c H2 f = some o := by rw [o20]; exact hf
        refine ⟨(ne_of_none zf (off_new hD)).symm, fun i x w e1 e2 => ?_⟩
        obtain ⟨b, eb, rfl⟩ := map_at e1
        obtain ⟨m, em, rfl⟩ := map_at e2
        have nb : b ≠ f := (ne_of_none zf (hfr b (mem_at eb))).symm
        refine .tup (SqT.of (show Off f f (Off p c H3) b = some _ by rw [off_at nb nb]; exact hT.2 i b m eb em)) rfl fun j y z f1 f2 => ?_
        match j, f1, f2 with
        | 0, f1, f2 => cases f1; cases f2; exact .int _
        | 1, f1, f2 => cases f1; cases f2; exact .int _
    · rintro σ H' ⟨e, rfl⟩
      rw [e]
      simp only [rIn, rPopAt, rClear, rCatT, tBM0, rExtend, tComp_eq, rRep, rCount, rSum, rEqD, rNeD, rEqE, capS, gLst, tNoTest, tChain, gSub, tSl, tNoPart, tPart, rSlL, rSetL, rAppend, Option.bind_some, Option.bind_none, Option.join_some, Option.map_some, List.getElem?_cons_zero, List.getElem?_cons_succ, tRaise, tCallS, tTry, rCat, V.str.injEq, V.ty.injEq, rNeT, rEqT, tBM, tFor_eq, iRng1, iRng2, iList, iTup, tSeq, tNext, tAsg, gName, gTup, gCons, gNil, tCB, tCons, tNil, tVar, tC, tOp, tUn, tTest, tB, tTru, tAnd, tOr, tNot, tAndV, tOrV, tNotV, tIf, tIfS, tRet, tRetN, tDrop, tLst, tTup, tPar, tCall, rI, rI0, rU, rEq, rNe, rIxL, rIxT, L2.start, truV_int, truV_bl, scal_int, scal_bl, List.map_cons, List.map_nil, List.length_cons, List.length_nil, List.replicate, List.cons_append, List.nil_append, List.append_nil, List.getElem?_cons_zero, List.getElem?_cons_succ, Option.some.injEq, exists_eq_left', exists_eq_left, exists_and_left, List.cons.injEq, V.int.injEq, V.ref.injEq, V.bl.injEq, and_true, true_and, List.set_cons_zero, List.set_cons_succ, Nat.reduceAdd, Nat.reduceSub, Int.reduceToNat, Int.reducePow, Int.reduceNeg, Int.reduceMul, Int.reduceAdd, Int.reduceSub, decide_eq_true_eq, Bool.not_eq_true', decide_eq_false_iff_not, exists_const, and_assoc, exists_eq, exists_eq', if_true, if_false, Bool.false_eq_true, Bool.true_eq_false, reduceCtorEq, not_true_eq_false, not_false_eq_true]
      refine ⟨by omega, by omega, fun D hD => ?_⟩
      refine draws P2 (by omega) (by decide) (by decide) (by omega) hD fun ns t4 H4 s4 P4 ht4 hD4 ln => ?_
      rw [o20] at s4
      refine q D (ns.map V.int) (ns.map Tr.int) t4 H4 s4 P4 (by omega) hD4 (by rw [List.length_map, List.length_map]) (by rw [List.length_map]; omega) fun f o hf => ⟨?_, shows_at⟩
      have z : Off p c H2 f = some o := by rw [o20]; exact hf
      exact (ne_of_none z (off_new hD)).symm
theorem sc__law_plan_of : FnScope ["_law_purse_here", "_law_kind", "_law_many"] ["_law_purse_here"] (defScope s__law_plan_of) := ⟨rfl, rfl, rfl, by decide +kernel, rfl, by decide +kernel, by decide +kernel⟩
theorem ok__law_plan_of (T : Txt K mg a) : FnOk P w K mg base CX0 2 a.f__law_plan_of a.d__law_plan_of ["_law_purse_here"] (spPlanOf K) := by
  have G__law_draw := ok__law_draw (P := P) (w := w) (base := base) T
  refine T.F__law_plan_of.ok sc__law_plan_of (fun vs H Q E h => ?_) (fun cdv A outer s H vs Q E hr h => ?_)
  · obtain ⟨p, c, t, rfl, hP, t1, q⟩ := h
    rfl
  obtain ⟨p, c, t, rfl, hP, t1, q⟩ := h
  exact ⟨t__law_plan_of, (pss_cons (ps_set (i := 1) sc__law_plan_of.nd rfl (Or.inl rfl) (pe_call G__law_draw (hr.mono (by decide)) rfl T.m__law_draw T.F__law_draw.kp T.b__law_draw .nil pass0 (pa_cons (pv 0) (pa_cons pe_int pa_nil))))
  (pss_cons (ps_set (i := 2) sc__law_plan_of.nd rfl (Or.inl rfl) (pe_call G__law_draw (hr.mono (by decide)) rfl T.m__law_draw T.F__law_draw.kp T.b__law_draw .nil pass0 (pa_cons (pv 0) (pa_cons pe_int pa_nil))))
  (pss_cons (ps_cut (ps_if (pt_cmpR op_eq (pv 1) pe_int (nomark _)) (pss_one (ps_ret (pe_op op_cat (pe_lst (pa_cons pe_int pa_nil)) (pe_comp (sc := defScope s__law_plan_of) (N := ["_law_purse_here", "_law_kind", "_law_many"]) (Nc := ["_law_k", "_law_purse_here"]) (cap := [none, some 0]) rfl rfl rfl (.of (by decide +kernel)) (pi_range1 rfl T.z_range (pa_cons (pv 2) pa_nil)) (fun _ _ _ _ => (pg_name (i := 0) (show List.Nodup (["_law_k", "_law_purse_here"] : List Str) from by decide) rfl (Or.inl rfl))) (fun _ _ _ _ => pts_nil) (fun _ _ _ _ => (pe_call G__law_draw (hr.mono (by decide)) rfl T.m__law_draw T.F__law_draw.kp T.b__law_draw .nil pass0 (pa_cons (pv 1) (pa_cons pe_int pa_nil)))))))) pss_nil))
  (pss_cons (ps_cut (ps_if (pt_cmpR op_eq (pv 1) pe_int (nomark _)) (pss_one (ps_ret (pe_comp (sc := defScope s__law_plan_of) (N := ["_law_purse_here", "_law_kind", "_law_many"]) (Nc := ["_law_k", "_law_purse_here"]) (cap := [none, some 0]) rfl rfl rfl (.of (by decide +kernel)) (pi_range1 rfl T.z_range (pa_cons (pv 2) pa_nil)) (fun _ _ _ _ => (pg_name (i := 0) (show List.Nodup (["_law_k", "_law_purse_here"] : List Str) from by decide) rfl (Or.inl rfl))) (fun _ _ _ _ => pts_nil) (fun _ _ _ _ => (pe_tup (pa_cons (pe_call G__law_draw (hr.mono (by decide)) rfl T.m__law_draw T.F__law_draw.kp T.b__law_draw .nil pass0 (pa_cons (pv 1) (pa_cons pe_int pa_nil))) (pa_cons (pe_call G__law_draw (hr.mono (by decide)) rfl T.m__law_draw T.F__law_draw.kp T.b__law_draw .nil pass0 (pa_cons (pv 1) (pa_cons pe_int pa_nil))) pa_nil))))))) pss_nil))
  (pss_one (ps_ret (pe_comp (sc := defScope s__law_plan_of) (N := ["_law_purse_here", "_law_kind", "_law_many"]) (Nc := ["_law_k", "_law_purse_here"]) (cap := [none, some 0]) rfl rfl rfl (.of (by decide +kernel)) (pi_range1 rfl T.z_range (pa_cons (pv 2) pa_nil)) (fun _ _ _ _ => (pg_name (i := 0) (show List.Nodup (["_law_k", "_law_purse_here"] : List Str) from by decide) rfl (Or.inl rfl))) (fun _ _ _ _ => pts_nil) (fun _ _ _ _ => (pe_call G__law_draw (hr.mono (by decide)) rfl T.m__law_draw T.F__law_draw.kp T.b__law_draw .nil pass0 (pa_cons (pv 1) (pa_cons pe_int pa_nil))))))))))),
    rd__law_plan_of hP t1 q⟩

def t__law_paper (K : PySem.W.Frag) : TS :=
  (tSeq (tAsg (tLst tNil) (gName 1))
  (tSeq (tFor (iRng1 (tCons (tOp (rI0 fun i j => .int (i + j)) (tC (.int 1)) (tCall spDraw [] E0 (tCons (tVar 0) (tCons (tC (.int 6)) tNil)))) tNil)) (gName 2)
  (tSeq (tAsg (tOp (rI0 fun i j => .int (i + j)) (tC (.int 1)) (tCall spDraw [] E0 (tCons (tVar 0) (tCons (tOp (rIxL K) (tLst (tCons (tC (.int 4)) (tCons (tC (.int 4)) (tCons (tOp (rI CPow fun i j => .int (i ^ j.toNat)) (tC (.int 10)) (tC (.int 29))) tNil)))) (tCall spDraw [] E0 (tCons (tVar 0) (tCons (tC (.int 3)) tNil)))) tNil)))) (gName 3))
  (tDrop (tBM K "list" rAppend (tVar 1) (tCons (tTup (tCons (tCall (spPlanOf K) [] E0 (tCons (tVar 0) tNil)) (tCons (tVar 3) tNil))) tNil)))))
  (tRet (tVar 1))))
theorem rd__law_paper {p c : Addr} {t : Int} (hP : Pur H p c t) (t1 : t < 5000)
    (q : ∀ (r : Addr) (its : List Itm) (t' : Int) (H' : Hp), Same (Off p c H) (Off p c H') → Pur H' p c t' → t' ≤ t + 200 → Pap K (Off p c H') r its → Q (.ref r) H') :
    t__law_paper K { nx := fun _ H' => Q .non H', rt := Q } (L2.start ["_law_purse_here", "_law_found", "_law_k", "_law_weight"] [.ref p]) H := by
  unfold t__law_paper
  have t0 := hP.t0
  simp only [rIn, rPopAt, rClear, rCatT, tBM0, rExtend, tComp_eq, rRep, rCount, rSum, rEqD, rNeD, rEqE, capS, gLst, tNoTest, tChain, gSub, tSl, tNoPart, tPart, rSlL, rSetL, rAppend, Option.bind_some, Option.bind_none, Option.join_some, Option.map_some, List.getElem?_cons_zero, List.getElem?_cons_succ, tRaise, tCallS, tTry, rCat, V.str.injEq, V.ty.injEq, rNeT, rEqT, tBM, tFor_eq, iRng1, iRng2, iList, iTup, tSeq, tNext, tAsg, gName, gTup, gCons, gNil, tCB, tCons, tNil, tVar, tC, tOp, tUn, tTest, tB, tTru, tAnd, tOr, tNot, tAndV, tOrV, tNotV, tIf, tIfS, tRet, tRetN, tDrop, tLst, tTup, tPar, tCall, rI, rI0, rU, rEq, rNe, rIxL, rIxT, L2.start, truV_int, truV_bl, scal_int, scal_bl, List.map_cons, List.map_nil, List.length_cons, List.length_nil, List.replicate, List.cons_append, List.nil_append, List.append_nil, List.getElem?_cons_zero, List.getElem?_cons_succ, Option.some.injEq, exists_eq_left', exists_eq_left, exists_and_left, List.cons.injEq, V.int.injEq, V.ref.injEq, V.bl.injEq, and_true, true_and, List.set_cons_zero, List.set_cons_succ, Nat.reduceAdd, Nat.reduceSub, Int.reduceToNat, Int.reducePow, Int.reduceNeg, Int.reduceMul, Int.reduceAdd, Int.reduceSub, decide_eq_true_eq, Bool.not_eq_true', decide_eq_false_iff_not, exists_const, and_assoc, exists_eq, exists_eq', if_true, if_false, Bool.false_eq_true, Bool.true_eq_false, reduceCtorEq, not_true_eq_false, not_false_eq_true]
  refine ⟨by decide, fun f hf => ?_⟩
  have nf' := hP.new hf
  obtain ⟨P1, s1, h1⟩ := off_put (o := .lst []) hP hf
  generalize L2.upd H f (.lst []) = H1 at P1 s1 h1 ⊢
  refine ⟨p, c, t, 6, rfl, P1, by omega, by decide, by decide, fun r H2 r0 r1 o2 P2 => ?_⟩
  simp only [rIn, rPopAt, rClear, rCatT, tBM0, rExtend, tComp_eq, rRep, rCount, rSum, rEqD, rNeD, rEqE, capS, gLst, tNoTest, tChain, gSub, tSl, tNoPart, tPart, rSlL, rSetL, rAppend, Option.bind_some, Option.bind_none, Option.join_some, Option.map_some, List.getElem?_cons_zero, List.getElem?_cons_succ, tRaise, tCallS, tTry, rCat, V.str.injEq, V.ty.injEq, rNeT, rEqT, tBM, tFor_eq, iRng1, iRng2, iList, iTup, tSeq, tNext, tAsg, gName, gTup, gCons, gNil, tCB, tCons, tNil, tVar, tC, tOp, tUn, tTest, tB, tTru, tAnd, tOr, tNot, tAndV, tOrV, tNotV, tIf, tIfS, tRet, tRetN, tDrop, tLst, tTup, tPar, tCall, rI, rI0, rU, rEq, rNe, rIxL, rIxT, L2.start, truV_int, truV_bl, scal_int, scal_bl, List.map_cons, List.map_nil, List.length_cons, List.length_nil, List.replicate, List.cons_append, List.nil_append, List.append_nil, List.getElem?_cons_zero, List.getElem?_cons_succ, Option.some.injEq, exists_eq_left', exists_eq_left, exists_and_left, List.cons.injEq, V.int.injEq, V.ref.injEq, V.bl.injEq, and_true, true_and, List.set_cons_zero, List.set_cons_succ, Nat.reduceAdd, Nat.reduceSub, Int.reduceToNat, Int.reducePow, Int.reduceNeg, Int.reduceMul, Int.reduceAdd, Int.reduceSub, decide_eq_true_eq, Bool.not_eq_true', decide_eq_false_iff_not, exists_const, and_assoc, exists_eq, exists_eq', if_true, if_false, Bool.false_eq_true, Bool.true_eq_false, reduceCtorEq, not_true_eq_false, not_false_eq_true]
  refine ⟨by omega, by omega, ?_⟩
  refine for_rangeF (fun i σ H' => Same (Off p c H) (Off p c H') ∧ ∃ (its : List Itm) (u : Int), Pur H' p c u ∧ u ≤ t + 1 + 30 * i ∧ Off p c H' f = some (.lst (its.map fun it => V.ref it.t)) ∧ (∀ it ∈ its, ItOk K (Off f f (Off p c H')) it) ∧ its.length = i ∧ ∃ k g, σ = [some (.ref p), some (.ref f), k, g]) ⟨by rw [o2]; exact s1, [], t + 1, P2, by omega, by rw [o2]; exact h1, by simp, rfl, _, _, rfl⟩ ?_ ?_
  · rintro i σ H3 hi ⟨s3, its, u, P3, hu, hf3, ok, li, k, g, rfl⟩
    have u0 := P3.t0
    simp only [rIn, rPopAt, rClear, rCatT, tBM0, rExtend, tComp_eq, rRep, rCount, rSum, rEqD, rNeD, rEqE, capS, gLst, tNoTest, tChain, gSub, tSl, tNoPart, tPart, rSlL, rSetL, rAppend, Option.bind_some, Option.bind_none, Option.join_some, Option.map_some, List.getElem?_cons_zero, List.getElem?_cons_succ, tRaise, tCallS, tTry, rCat, V.str.injEq, V.ty.injEq, rNeT, rEqT, tBM, tFor_eq, iRng1, iRng2, iList, iTup, tSeq, tNext, tAsg, gName, gTup, gCons, gNil, tCB, tCons, tNil, tVar, tC, tOp, tUn, tTest, tB, tTru, tAnd, tOr, tNot, tAndV, tOrV, tNotV, tIf, tIfS, tRet, tRetN, tDrop, tLst, tTup, tPar, tCall, rI, rI0, rU, rEq, rNe, rIxL, rIxT, L2.start, truV_int, truV_bl, scal_int, scal_bl, List.map_cons, List.map_nil, List.length_cons, List.length_nil, List.replicate, List.cons_append, List.nil_append, List.append_nil, List.getElem?_cons_zero, List.getElem?_cons_succ, Option.some.injEq, exists_eq_left', exists_eq_left, exists_and_left, List.cons.injEq, V.int.injEq, V.ref.injEq, V.bl.injEq, and_true, true_and, List.set_cons_zero, List.set_cons_succ, Nat.reduceAdd, Nat.reduceSub, Int.reduceToNat, Int.reducePow, Int.reduceNeg, Int.reduceMul, Int.reduceAdd, Int.reduceSub, decide_eq_true_eq, Bool.not_eq_true', decide_eq_false_iff_not, exists_const, and_assoc, exists_eq, exists_eq', if_true, if_false, Bool.false_eq_true, Bool.true_eq_false, reduceCtorEq, not_true_eq_false, not_false_eq_true]
    refine ⟨pow29, by decide, fun e he => ?_⟩
    obtain ⟨P4, s4, h4⟩ := off_put (o := .lst [V.int 4, V.int 4, V.int 100000000000000000000000000000]) P3 he
    generalize L2.upd H3 e (.lst [V.int 4, V.int 4, V.int 100000000000000000000000000000]) = H4 at P4 s4 h4 ⊢
    refine ⟨p, c, u, 3, rfl, P4, by omega, by decide, by decide, fun r3 H5 r30 r31 o5 P5 => ?_⟩
    obtain ⟨m, em, m0, m1⟩ := at3' r30 r31
    rw [← o5] at s4 h4
    simp only [rIn, rPopAt, rClear, rCatT, tBM0, rExtend, tComp_eq, rRep, rCount, rSum, rEqD, rNeD, rEqE, capS, gLst, tNoTest, tChain, gSub, tSl, tNoPart, tPart, rSlL, rSetL, rAppend, Option.bind_some, Option.bind_none, Option.join_some, Option.map_some, List.getElem?_cons_zero, List.getElem?_cons_succ, tRaise, tCallS, tTry, rCat, V.str.injEq, V.ty.injEq, rNeT, rEqT, tBM, tFor_eq, iRng1, iRng2, iList, iTup, tSeq, tNext, tAsg, gName, gTup, gCons, gNil, tCB, tCons, tNil, tVar, tC, tOp, tUn, tTest, tB, tTru, tAnd, tOr, tNot, tAndV, tOrV, tNotV, tIf, tIfS, tRet, tRetN, tDrop, tLst, tTup, tPar, tCall, rI, rI0, rU, rEq, rNe, rIxL, rIxT, L2.start, truV_int, truV_bl, scal_int, scal_bl, List.map_cons, List.map_nil, List.length_cons, List.length_nil, List.replicate, List.cons_append, List.nil_append, List.append_nil, List.getElem?_cons_zero, List.getElem?_cons_succ, Option.some.injEq, exists_eq_left', exists_eq_left, exists_and_left, List.cons.injEq, V.int.injEq, V.ref.injEq, V.bl.injEq, and_true, true_and, List.set_cons_zero, List.set_cons_succ, Nat.reduceAdd, Nat.reduceSub, Int.reduceToNat, Int.reducePow, Int.reduceNeg, Int.reduceMul, Int.reduceAdd, Int.reduceSub, decide_eq_true_eq, Bool.not_eq_true', decide_eq_false_iff_not, exists_const, and_assoc, exists_eq, exists_eq', if_true, if_false, Bool.false_eq_true, Bool.true_eq_false, reduceCtorEq, not_true_eq_false, not_false_eq_true]
    refine ⟨_, SqL.of (off_le _ _ _ _ _ h4), _, em, ?_⟩
    refine ⟨p, c, u + 1, m, rfl, P5, by omega, m0, by omega, fun w H6 w0 w1 o6 P6 => ?_⟩
    rw [← o6] at s4
    have hf6 := s4 _ _ hf3
    simp only [rIn, rPopAt, rClear, rCatT, tBM0, rExtend, tComp_eq, rRep, rCount, rSum, rEqD, rNeD, rEqE, capS, gLst, tNoTest, tChain, gSub, tSl, tNoPart, tPart, rSlL, rSetL, rAppend, Option.bind_some, Option.bind_none, Option.join_some, Option.map_some, List.getElem?_cons_zero, List.getElem?_cons_succ, tRaise, tCallS, tTry, rCat, V.str.injEq, V.ty.injEq, rNeT, rEqT, tBM, tFor_eq, iRng1, iRng2, iList, iTup, tSeq, tNext, tAsg, gName, gTup, gCons, gNil, tCB, tCons, tNil, tVar, tC, tOp, tUn, tTest, tB, tTru, tAnd, tOr, tNot, tAndV, tOrV, tNotV, tIf, tIfS, tRet, tRetN, tDrop, tLst, tTup, tPar, tCall, rI, rI0, rU, rEq, rNe, rIxL, rIxT, L2.start, truV_int, truV_bl, scal_int, scal_bl, List.map_cons, List.map_nil, List.length_cons, List.length_nil, List.replicate, List.cons_append, List.nil_append, List.append_nil, List.getElem?_cons_zero, List.getElem?_cons_succ, Option.some.injEq, exists_eq_left', exists_eq_left, exists_and_left, List.cons.injEq, V.int.injEq, V.ref.injEq, V.bl.injEq, and_true, true_and, List.set_cons_zero, List.set_cons_succ, Nat.reduceAdd, Nat.reduceSub, Int.reduceToNat, Int.reducePow, Int.reduceNeg, Int.reduceMul, Int.reduceAdd, Int.reduceSub, decide_eq_true_eq, Bool.not_eq_true', decide_eq_false_iff_not, exists_const, and_assoc, exists_eq, exists_eq', if_true, if_false, Bool.false_eq_true, Bool.true_eq_false, reduceCtorEq, not_true_eq_false, not_false_eq_true]
    refine ⟨.inl ⟨rfl, _, SqL.of (off_le _ _ _ _ _ hf6)⟩, ?_⟩
    refine ⟨p, c, u + 1 + 1, rfl, P6, by omega, fun pr xs tr t7 H7 s7 P7 ht7 hpr lx l10 sh => ?_⟩
    obtain ⟨npf, sh⟩ := sh f _ hf6
    refine ⟨by decide, fun d hd => ?_⟩
    obtain ⟨P8, s8, h8⟩ := off_put (o := .tup [V.ref pr, V.int (1 + w)]) P7 hd
    have hf7 := s7 _ _ hf6
    have ndf : d ≠ f := (ne_of_none hf7 (off_new hd)).symm
    generalize L2.upd H7 d (.tup [V.ref pr, V.int (1 + w)]) = H8 at P8 s8 h8 ⊢
    have hf8 := s8 _ _ hf7
    have s48 := s4.trans (s7.trans s8)
    refine ⟨_, off_le _ _ _ _ _ hf8, small1000 (by rw [List.length_map]; omega), ?_, its ++ [⟨d, pr, xs, 1 + w, tr⟩], t7, P8.upd nf'.1 nf'.2, by omega, ?_, ?_, by rw [List.length_append, li]; rfl⟩
    · rw [off_upd nf'.1 nf'.2]
      exact (s3.trans s48).put (off_new hf)
    · rw [off_upd nf'.1 nf'.2, upd_same, List.map_append]
      rfl
    · intro it hit
      rw [off_upd nf'.1 nf'.2, off_p]
      rcases List.mem_append.mp hit with h | h
      · exact (ok it h).same (off_same f f s48)
      · have e : it = ⟨d, pr, xs, 1 + w, tr⟩ := by simpa using h
        rw [e]
        refine ⟨?_, ?_, lx, fun i x z e1 e2 => Shows.same (off_same f f s8) (sh i x z e1 e2), by show 1 ≤ 1 + w; omega, by show 1 + w ≤ _; omega, l10⟩
        · rw [off_at ndf ndf]
          exact h8
        · rw [off_at npf npf]
          exact s8 _ _ hpr
  · rintro σ H3 ⟨s3, its, u, P3, hu, hf3, ok, li, k, g, rfl⟩
    simp only [rIn, rPopAt, rClear, rCatT, tBM0, rExtend, tComp_eq, rRep, rCount, rSum, rEqD, rNeD, rEqE, capS, gLst, tNoTest, tChain, gSub, tSl, tNoPart, tPart, rSlL, rSetL, rAppend, Option.bind_some, Option.bind_none, Option.join_some, Option.map_some, List.getElem?_cons_zero, List.getElem?_cons_succ, tRaise, tCallS, tTry, rCat, V.str.injEq, V.ty.injEq, rNeT, rEqT, tBM, tFor_eq, iRng1, iRng2, iList, iTup, tSeq, tNext, tAsg, gName, gTup, gCons, gNil, tCB, tCons, tNil, tVar, tC, tOp, tUn, tTest, tB, tTru, tAnd, tOr, tNot, tAndV, tOrV, tNotV, tIf, tIfS, tRet, tRetN, tDrop, tLst, tTup, tPar, tCall, rI, rI0, rU, rEq, rNe, rIxL, rIxT, L2.start, truV_int, truV_bl, scal_int, scal_bl, List.map_cons, List.map_nil, List.length_cons, List.length_nil, List.replicate, List.cons_append, List.nil_append, List.append_nil, List.getElem?_cons_zero, List.getElem?_cons_succ, Option.some.injEq, exists_eq_left', exists_eq_left, exists_and_left, List.cons.injEq, V.int.injEq, V.ref.injEq, V.bl.injEq, and_true, true_and, List.set_cons_zero, List.set_cons_succ, Nat.reduceAdd, Nat.reduceSub, Int.reduceToNat, Int.reducePow, Int.reduceNeg, Int.reduceMul, Int.reduceAdd, Int.reduceSub, decide_eq_true_eq, Bool.not_eq_true', decide_eq_false_iff_not, exists_const, and_assoc, exists_eq, exists_eq', if_true, if_false, Bool.false_eq_true, Bool.true_eq_false, reduceCtorEq, not_true_eq_false, not_false_eq_true]
    exact q f its u H3 s3 P3 (by omega) ⟨hf3, fun it h => (ok it h).same (off_le f f _), by omega, by omega⟩
theorem sc__law_paper : FnScope ["_law_purse_here", "_law_found", "_law_k", "_law_weight"] ["_law_purse_here"] (defScope s__law_paper) := ⟨rfl, rfl, rfl, by decide +kernel, rfl, by decide +kernel, by decide +kernel⟩
theorem ok__law_paper (T : Txt K mg a) : FnOk P w K mg base CX0 3 a.f__law_paper a.d__law_paper ["_law_purse_here"] (spPaper K) := by
  have G__law_draw := ok__law_draw (P := P) (w := w) (base := base) T
  have G__law_plan_of := ok__law_plan_of (P := P) (w := w) (base := base) T
  refine T.F__law_paper.ok sc__law_paper (fun vs H Q E h => ?_) (fun cdv A outer s H vs Q E hr h => ?_)
  · obtain ⟨p, c, t, rfl, hP, t1, q⟩ := h
    rfl
  obtain ⟨p, c, t, rfl, hP, t1, q⟩ := h
  exact ⟨t__law_paper K, (pss_cons (ps_set (i := 1) sc__law_paper.nd rfl (Or.inl rfl) (pe_lst pa_nil))
  (pss_cons (ps_for PassesOwn.never rfl (pi_range1 rfl T.z_range (pa_cons (pe_op op_add pe_int (pe_call G__law_draw (hr.mono (by decide)) rfl T.m__law_draw T.F__law_draw.kp T.b__law_draw .nil pass0 (pa_cons (pv 0) (pa_cons pe_int pa_nil)))) pa_nil)) (pg_name (i := 2) sc__law_paper.nd rfl (Or.inl rfl))
  (pss_cons (ps_set (i := 3) sc__law_paper.nd rfl (Or.inl rfl) (pe_op op_add pe_int (pe_call G__law_draw (hr.mono (by decide)) rfl T.m__law_draw T.F__law_draw.kp T.b__law_draw .nil pass0 (pa_cons (pv 0) (pa_cons (pe_ix ix_list (pe_lst (pa_cons pe_int (pa_cons pe_int (pa_cons (pe_op op_pow pe_int pe_int) pa_nil)))) (pe_call G__law_draw (hr.mono (by decide)) rfl T.m__law_draw T.F__law_draw.kp T.b__law_draw .nil pass0 (pa_cons (pv 0) (pa_cons pe_int pa_nil))) (fun _ _ => rfl)) pa_nil)))))
  (pss_one (ps_expr (pe_bm PySem.F.plainAttrs_list PySem.F.slot_list_append PySem.F.type_list_append mt_append (pv 1) (pa_cons (pe_tup (pa_cons (pe_call G__law_plan_of (hr.mono (by decide)) rfl T.m__law_plan_of T.F__law_plan_of.kp T.b__law_plan_of .nil pass0 (pa_cons (pv 0) pa_nil)) (pa_cons (pv 3) pa_nil))) pa_nil))))))
  (pss_one (ps_ret (pv 1))))),
    rd__law_paper hP t1 q⟩

def t__law_copy (K : PySem.W.Frag) : TS :=
  (tRet (tComp (iList K (tVar 0)) (gTup K 2 (gCons (gName 0) (gCons (gName 1) gNil))) tNoTest (tTup (tCons (tCB (fun xs H Q => ∃ p ys, xs = [.ref p] ∧ (SqL K H p ys ∨ SqT K H p ys) ∧ ∀ l, H l = none → Q (.ref l) (upd H l (.lst ys))) (tCons (tVar 0) tNil)) (tCons (tVar 1) tNil))) [none, none]))
theorem rd__law_copy {p u c : Addr} {t : Int} {its : List Itm} (hP : Pur H u c t) (B0 : Pap K (Off u c H) p its) (q : ∀ (r : Addr) (jts : List Itm) (H' : Hp), Same H H' → Pap K (Off u c H') r jts → jts.map key = its.map key → Q (.ref r) H') :
    t__law_copy K { nx := fun _ H' => Q .non H', rt := Q } (L2.start ["_law_paper_here"] [.ref p]) H := by
  unfold t__law_copy
  have B := B0.same (off_le u c H)
  have l6 := B.l6
  simp only [rIn, rPopAt, rClear, rCatT, tBM0, rExtend, tComp_eq, rRep, rCount, rSum, rEqD, rNeD, rEqE, capS, gLst, tNoTest, tChain, gSub, tSl, tNoPart, tPart, rSlL, rSetL, rAppend, Option.bind_some, Option.bind_none, Option.join_some, Option.map_some, List.getElem?_cons_zero, List.getElem?_cons_succ, tRaise, tCallS, tTry, rCat, V.str.injEq, V.ty.injEq, rNeT, rEqT, tBM, tFor_eq, iRng1, iRng2, iList, iTup, tSeq, tNext, tAsg, gName, gTup, gCons, gNil, tCB, tCons, tNil, tVar, tC, tOp, tUn, tTest, tB, tTru, tAnd, tOr, tNot, tAndV, tOrV, tNotV, tIf, tIfS, tRet, tRetN, tDrop, tLst, tTup, tPar, tCall, rI, rI0, rU, rEq, rNe, rIxL, rIxT, L2.start, truV_int, truV_bl, scal_int, scal_bl, List.map_cons, List.map_nil, List.length_cons, List.length_nil, List.replicate, List.cons_append, List.nil_append, List.append_nil, List.getElem?_cons_zero, List.getElem?_cons_succ, Option.some.injEq, exists_eq_left', exists_eq_left, exists_and_left, List.cons.injEq, V.int.injEq, V.ref.injEq, V.bl.injEq, and_true, true_and, List.set_cons_zero, List.set_cons_succ, Nat.reduceAdd, Nat.reduceSub, Int.reduceToNat, Int.reducePow, Int.reduceNeg, Int.reduceMul, Int.reduceAdd, Int.reduceSub, decide_eq_true_eq, Bool.not_eq_true', decide_eq_false_iff_not, exists_const, and_assoc, exists_eq, exists_eq', if_true, if_false, Bool.false_eq_true, Bool.true_eq_false, reduceCtorEq, not_true_eq_false, not_false_eq_true]
  refine ⟨⟨_, SqL.of B.hp⟩, fun D hD => ?_⟩
  have nDu := hP.new hD
  refine comp_listF (K := K) (xs := its.map fun it => V.ref it.t) (fun i ys σ H' => Same H H' ∧ (∃ jts : List Itm, ys = jts.map (fun it => V.ref it.t) ∧ jts.map key = (its.take i).map key ∧ ∀ it ∈ jts, ItOk K (Off D D (Off u c H')) it) ∧ ∃ x y, σ = [x, y]) ⟨same_new hD _, ⟨[], rfl, rfl, by simp⟩, _, _, rfl⟩ ?_ ?_ ?_
  · rintro i ys σ H' _ ⟨s, _⟩
    exact SqL.of (s _ _ B.hp)
  · rintro i x ys σ H1 hx hD1 ⟨s, ⟨jts, rfl, ej, ok⟩, u1, v1, rfl⟩
    obtain ⟨it, ei, rfl⟩ := map_at hx
    have o := B.ok it (mem_at ei)
    have o1 := o.same s
    have li := (List.getElem?_eq_some_iff.mp ei).1
    have lj : jts.length = i := by
      have := congrArg List.length ej
      rw [List.length_map, List.length_map, List.length_take] at this
      omega
    simp only [rIn, rPopAt, rClear, rCatT, tBM0, rExtend, tComp_eq, rRep, rCount, rSum, rEqD, rNeD, rEqE, capS, gLst, tNoTest, tChain, gSub, tSl, tNoPart, tPart, rSlL, rSetL, rAppend, Option.bind_some, Option.bind_none, Option.join_some, Option.map_some, List.getElem?_cons_zero, List.getElem?_cons_succ, tRaise, tCallS, tTry, rCat, V.str.injEq, V.ty.injEq, rNeT, rEqT, tBM, tFor_eq, iRng1, iRng2, iList, iTup, tSeq, tNext, tAsg, gName, gTup, gCons, gNil, tCB, tCons, tNil, tVar, tC, tOp, tUn, tTest, tB, tTru, tAnd, tOr, tNot, tAndV, tOrV, tNotV, tIf, tIfS, tRet, tRetN, tDrop, tLst, tTup, tPar, tCall, rI, rI0, rU, rEq, rNe, rIxL, rIxT, L2.start, truV_int, truV_bl, scal_int, scal_bl, List.map_cons, List.map_nil, List.length_cons, List.length_nil, List.replicate, List.cons_append, List.nil_append, List.append_nil, List.getElem?_cons_zero, List.getElem?_cons_succ, Option.some.injEq, exists_eq_left', exists_eq_left, exists_and_left, List.cons.injEq, V.int.injEq, V.ref.injEq, V.bl.injEq, and_true, true_and, List.set_cons_zero, List.set_cons_succ, Nat.reduceAdd, Nat.reduceSub, Int.reduceToNat, Int.reducePow, Int.reduceNeg, Int.reduceMul, Int.reduceAdd, Int.reduceSub, decide_eq_true_eq, Bool.not_eq_true', decide_eq_false_iff_not, exists_const, and_assoc, exists_eq, exists_eq', if_true, if_false, Bool.false_eq_true, Bool.true_eq_false, reduceCtorEq, not_true_eq_false, not_false_eq_true]
    refine ⟨_, SqT.of o1.ht, rfl, _, _, rfl, _, _, rfl, rfl, ?_⟩
    refine ⟨_, rfl, _, .inl (SqL.of o1.ha), fun d hd => ⟨by decide, fun e he => ?_⟩⟩
    have s2 := (same_new hd (.lst it.xs)).add he (o := .tup [V.ref d, V.int it.w])
    have hd2 : (L2.upd (L2.upd H1 d (.lst it.xs)) e (.tup [V.ref d, V.int it.w])) d = some (.lst it.xs) := by
      rw [upd_ne (ne_of_none upd_same he)]
      exact upd_same
    have he2 : (L2.upd (L2.upd H1 d (.lst it.xs)) e (.tup [V.ref d, V.int it.w])) e = some (.tup [V.ref d, V.int it.w]) := upd_same
    have ndu := (hP.same s).new hd
    have neu := ((hP.same s).same (same_new hd (.lst it.xs))).new he
    have ndD : d ≠ D := (ne_of_none hD1 hd).symm
    have neD : e ≠ D := by
      have z : (L2.upd H1 d (.lst it.xs)) D = some (.lst (jts.map fun it => V.ref it.t)) := by rw [upd_ne ndD.symm]; exact hD1
      exact (ne_of_none z he).symm
    generalize L2.upd (L2.upd H1 d (.lst it.xs)) e (.tup [V.ref d, V.int it.w]) = H2 at s2 hd2 he2 ⊢
    have nH : Same (Off u c H) (Off D D (Off u c H2)) := fun b w hb => by
      have nb : b ≠ D := ne_of_none (off_le _ _ _ _ _ hb) hD
      rw [off_at nb nb]
      exact off_same u c (s.trans s2) _ _ hb
    refine ⟨_, s2 _ _ hD1, small1000 (by rw [List.length_map]; omega), _, upd_same, (s.trans s2).put hD, jts ++ [⟨e, d, it.xs, it.w, it.tr⟩], by simp, ?_, fun jt hjt => ?_⟩
    · rw [take_map_put _ ei, List.map_append, ej]
      rfl
    · rw [off_upd nDu.1 nDu.2, off_p]
      rcases List.mem_append.mp hjt with h | h
      · exact (ok jt h).same (off_same D D (off_same u c s2))
      · have ee : jt = ⟨e, d, it.xs, it.w, it.tr⟩ := by simpa using h
        rw [ee]
        have oh := (B0.ok it (mem_at ei)).same nH
        exact ⟨by rw [off_at neD neD, off_at neu.1 neu.2]; exact he2, by rw [off_at ndD ndD, off_at ndu.1 ndu.2]; exact hd2, oh.len, oh.sh, oh.w1, oh.w2, oh.small⟩
  · rintro ys σ H1 hD1 ⟨s, ⟨jts, rfl, ej, ok⟩, u1, v1, rfl⟩
    rw [List.length_map, List.take_length] at ej
    have lj : jts.length = its.length := by
      have := congrArg List.length ej
      rw [List.length_map, List.length_map] at this
      exact this
    have l1 := B.l1
    exact q D jts H1 s ⟨by rw [off_at nDu.1 nDu.2]; exact hD1, fun it h => (ok it h).same (off_le D D _), by omega, by omega⟩ ej
theorem sc__law_copy : FnScope ["_law_paper_here"] ["_law_paper_here"] (defScope s__law_copy) := ⟨rfl, rfl, rfl, by decide +kernel, rfl, by decide +kernel, by decide +kernel⟩
theorem ok__law_copy (T : Txt K mg a) : FnOk P w K mg base CX0 1 a.f__law_copy a.d__law_copy ["_law_paper_here"] (spCopy K) := by
  refine T.F__law_copy.ok sc__law_copy (fun vs H Q E h => ?_) (fun cdv A outer s H vs Q E hr h => ?_)
  · obtain ⟨p, u, c, t, its, rfl, hP, B, q⟩ := h
    rfl
  obtain ⟨p, u, c, t, its, rfl, hP, B, q⟩ := h
  exact ⟨t__law_copy K, (pss_one (ps_ret (pe_comp (sc := defScope s__law_copy) (N := ["_law_paper_here"]) (Nc := ["_law_plan", "_law_weight"]) (cap := [none, none]) rfl rfl rfl (.of (by decide +kernel)) (pi_list (pv 0)) (fun _ _ _ _ => (pg_tup rfl (pgs_cons (pg_name (i := 0) (show List.Nodup (["_law_plan", "_law_weight"] : List Str) from by decide) rfl (Or.inl rfl)) (pgs_cons (pg_name (i := 1) (show List.Nodup (["_law_plan", "_law_weight"] : List Str) from by decide) rfl (Or.inl rfl)) pgs_nil)))) (fun _ _ _ _ => pts_nil) (fun _ _ _ _ => (pe_tup (pa_cons (pe_callTy call_list_of rfl T.z_list boot_list (pa_cons (pv 0) pa_nil)) (pa_cons (pv 1) pa_nil))))))),
    rd__law_copy hP B q⟩

def spRefused (K : PySem.W.Frag) : Sp := fun vs H Q _ => ∃ (p : Addr) (its : List Itm) (n : Int), vs = [.ref p, .int n] ∧ Pap K H p its ∧ (n < 0 ∨ tot its ≤ n → ∀ (r : Addr) (H' : Hp), Same H H' → H' r = some (.lst [.str "play"]) → Q (.ref r) H') ∧ (0 ≤ n → n < tot its → ∀ (r : Addr) (H' : Hp), Same H H' → H' r = some (.lst []) → Q (.ref r) H')
theorem isiT_exc {K : PySem.W.Frag} {H : Hp} {Q : VK} {r tp : Addr} {cs : List V} {cv : Value} {cvs : List Value} {b : Bool} (h : H r = some (excO r cv)) (k : ExcCls K cv) (ht : H tp = some (.tup cs)) (hc : clsVs cs = some cvs) (e : PySem.W.kitAny K cv cvs = some b) (q : Q (.bl b) H) : rIsiT K [.ref r, .ref tp] H Q :=
  ⟨r, tp, cs, cv, cvs, b, rfl, h, k, SqT.of ht, hc, e, q⟩
def t__law_refused (K : PySem.W.Frag) (a : Ad) : TS :=
  (tSeq (tAsg (tC .non) (gName 2))
  (tSeq (tTry K (fun E' => (tDrop (tCallS (spPlayedX K a) [] E' (tCons (tVar 0) (tCons (tVar 1) tNil))))) (.ref a.c_HideError) 3
  (tAsg (tVar 3) (gName 2)))
  (tSeq (tCut (tIfS (tTest (tOp (fun x y H Q => y = .non ∧ Q (.bl (decide (x = .non))) H) (tVar 2) (tC .non))) (tRet (tLst tNil)) tNext))
  (tSeq (tCut (tIfS (tOr (tB (tCB (rIsiT K) (tCons (tVar 2) (tCons (tTup (tCons (tC (.ref a.c_NoBoxes)) (tCons (tC (.ref a.c_NoBudget)) (tCons (tC (.ref a.c_NoKind)) tNil)))) tNil)))) (tB (tCB (rIsiT K) (tCons (tVar 2) (tCons (tTup (tCons (tC (.ref a.c_NoName)) (tCons (tC (.ref a.c_NoNumber)) (tCons (tC (.ref a.c_NoOrder)) (tCons (tC (.ref a.c_NoPlan)) tNil))))) tNil))))) (tRet (tLst (tCons (tC (.str "other")) tNil))) tNext))
  (tSeq (tCut (tIfS (tOr (tB (tCB (rIsiT K) (tCons (tVar 2) (tCons (tTup (tCons (tC (.ref a.c_NoRoad)) (tCons (tC (.ref a.c_NoRow)) (tCons (tC (.ref a.c_NoTable)) (tCons (tC (.ref a.c_NoText)) tNil))))) tNil)))) (tB (tCB (rIsiT K) (tCons (tVar 2) (tCons (tTup (tCons (tC (.ref a.c_NoTree)) (tCons (tC (.ref a.c_NoTurns)) (tCons (tC (.ref a.c_NoWeb)) (tCons (tC (.ref a.c_NoWeights)) tNil))))) tNil))))) (tRet (tLst (tCons (tC (.str "other")) tNil))) tNext))
  (tSeq (tCut (tIfS (tOr (tB (tCB (rIsiT K) (tCons (tVar 2) (tCons (tTup (tCons (tC (.ref a.c_NoPaper)) (tCons (tC (.ref a.c_TooGreat)) tNil))) tNil)))) (tOr (tNot (tB (tCB (rIsi K) (tCons (tVar 2) (tCons (tC (.ref a.c_NoPlay)) tNil))))) (tNot (tB (tCB (rIsi K) (tCons (tVar 2) (tCons (tC (.ty "ValueError")) tNil))))))) (tRet (tLst (tCons (tC (.str "other")) tNil))) tNext))
  (tRet (tLst (tCons (tC (.str "play")) tNil)))))))))
theorem rd__law_refused {p : Addr} {its : List Itm} {n : Int} (I : Isa K a) (B : Pap K H p its) (q1 : n < 0 ∨ tot its ≤ n → ∀ (r : Addr) (H' : Hp), Same H H' → H' r = some (.lst [.str "play"]) → Q (.ref r) H') (q2 : 0 ≤ n → n < tot its → ∀ (r : Addr) (H' : Hp), Same H H' → H' r = some (.lst []) → Q (.ref r) H') :
    t__law_refused K a { nx := fun _ H' => Q .non H', rt := Q } (L2.start ["_law_paper_here", "_law_number", "_law_caught", "e"] [.ref p, .int n]) H := by
  unfold t__law_refused
  simp only [rIn, rPopAt, rClear, rCatT, tBM0, rExtend, tComp_eq, rRep, rCount, rSum, rEqD, rNeD, rEqE, capS, gLst, tNoTest, tChain, gSub, tSl, tNoPart, tPart, rSlL, rSetL, rAppend, Option.bind_some, Option.bind_none, Option.join_some, Option.map_some, List.getElem?_cons_zero, List.getElem?_cons_succ, tRaise, tCallS, tTry, rCat, V.str.injEq, V.ty.injEq, rNeT, rEqT, tBM, tFor_eq, iRng1, iRng2, iList, iTup, tSeq, tNext, tAsg, gName, gTup, gCons, gNil, tCB, tCons, tNil, tVar, tC, tOp, tUn, tTest, tB, tTru, tAnd, tOr, tNot, tAndV, tOrV, tNotV, tIf, tIfS, tRet, tRetN, tDrop, tLst, tTup, tPar, tCall, rI, rI0, rU, rEq, rNe, rIxL, rIxT, L2.start, truV_int, truV_bl, scal_int, scal_bl, List.map_cons, List.map_nil, List.length_cons, List.length_nil, List.replicate, List.cons_append, List.nil_append, List.append_nil, List.getElem?_cons_zero, List.getElem?_cons_succ, Option.some.injEq, exists_eq_left', exists_eq_left, exists_and_left, List.cons.injEq, V.int.injEq, V.ref.injEq, V.bl.injEq, and_true, true_and, List.set_cons_zero, List.set_cons_succ, Nat.reduceAdd, Nat.reduceSub, Int.reduceToNat, Int.reducePow, Int.reduceNeg, Int.reduceMul, Int.reduceAdd, Int.reduceSub, decide_eq_true_eq, Bool.not_eq_true', decide_eq_false_iff_not, exists_const, and_assoc, exists_eq, exists_eq', if_true, if_false, Bool.false_eq_true, Bool.true_eq_false, reduceCtorEq, not_true_eq_false, not_false_eq_true]
  refine ⟨p, its, n, rfl, B, fun hn => ⟨I.ec, I.sub, fun x nx => ?_⟩, fun n0 n1 r H1 s1 => ?_⟩
  · have s1 := same_new nx (excO x (.ref a.c_NoPlay))
    have h1 : (L2.upd H x (excO x (.ref a.c_NoPlay))) x = some (excO x (.ref a.c_NoPlay)) := upd_same
    generalize L2.upd H x (excO x (.ref a.c_NoPlay)) = H1 at s1 h1 ⊢
    refine ⟨fun σ H' => Same H H' ∧ H' x = some (excO x (.ref a.c_NoPlay)) ∧ σ = [some (.ref p), some (.int n), some (.ref x), none], ?_, ?_⟩
    · simp only [rIn, rPopAt, rClear, rCatT, tBM0, rExtend, tComp_eq, rRep, rCount, rSum, rEqD, rNeD, rEqE, capS, gLst, tNoTest, tChain, gSub, tSl, tNoPart, tPart, rSlL, rSetL, rAppend, Option.bind_some, Option.bind_none, Option.join_some, Option.map_some, List.getElem?_cons_zero, List.getElem?_cons_succ, tRaise, tCallS, tTry, rCat, V.str.injEq, V.ty.injEq, rNeT, rEqT, tBM, tFor_eq, iRng1, iRng2, iList, iTup, tSeq, tNext, tAsg, gName, gTup, gCons, gNil, tCB, tCons, tNil, tVar, tC, tOp, tUn, tTest, tB, tTru, tAnd, tOr, tNot, tAndV, tOrV, tNotV, tIf, tIfS, tRet, tRetN, tDrop, tLst, tTup, tPar, tCall, rI, rI0, rU, rEq, rNe, rIxL, rIxT, L2.start, truV_int, truV_bl, scal_int, scal_bl, List.map_cons, List.map_nil, List.length_cons, List.length_nil, List.replicate, List.cons_append, List.nil_append, List.append_nil, List.getElem?_cons_zero, List.getElem?_cons_succ, Option.some.injEq, exists_eq_left', exists_eq_left, exists_and_left, List.cons.injEq, V.int.injEq, V.ref.injEq, V.bl.injEq, and_true, true_and, List.set_cons_zero, List.set_cons_succ, Nat.reduceAdd, Nat.reduceSub, Int.reduceToNat, Int.reducePow, Int.reduceNeg, Int.reduceMul, Int.reduceAdd, Int.reduceSub, decide_eq_true_eq, Bool.not_eq_true', decide_eq_false_iff_not, exists_const, and_assoc, exists_eq, exists_eq', if_true, if_false, Bool.false_eq_true, Bool.true_eq_false, reduceCtorEq, not_true_eq_false, not_false_eq_true]
      exact ⟨s1, h1⟩
    rintro σ H1 ⟨s1, h1, rfl⟩
    simp only [rIn, rPopAt, rClear, rCatT, tBM0, rExtend, tComp_eq, rRep, rCount, rSum, rEqD, rNeD, rEqE, capS, gLst, tNoTest, tChain, gSub, tSl, tNoPart, tPart, rSlL, rSetL, rAppend, Option.bind_some, Option.bind_none, Option.join_some, Option.map_some, List.getElem?_cons_zero, List.getElem?_cons_succ, tRaise, tCallS, tTry, rCat, V.str.injEq, V.ty.injEq, rNeT, rEqT, tBM, tFor_eq, iRng1, iRng2, iList, iTup, tSeq, tNext, tAsg, gName, gTup, gCons, gNil, tCB, tCons, tNil, tVar, tC, tOp, tUn, tTest, tB, tTru, tAnd, tOr, tNot, tAndV, tOrV, tNotV, tIf, tIfS, tRet, tRetN, tDrop, tLst, tTup, tPar, tCall, rI, rI0, rU, rEq, rNe, rIxL, rIxT, L2.start, truV_int, truV_bl, scal_int, scal_bl, List.map_cons, List.map_nil, List.length_cons, List.length_nil, List.replicate, List.cons_append, List.nil_append, List.append_nil, List.getElem?_cons_zero, List.getElem?_cons_succ, Option.some.injEq, exists_eq_left', exists_eq_left, exists_and_left, List.cons.injEq, V.int.injEq, V.ref.injEq, V.bl.injEq, and_true, true_and, List.set_cons_zero, List.set_cons_succ, Nat.reduceAdd, Nat.reduceSub, Int.reduceToNat, Int.reducePow, Int.reduceNeg, Int.reduceMul, Int.reduceAdd, Int.reduceSub, decide_eq_true_eq, Bool.not_eq_true', decide_eq_false_iff_not, exists_const, and_assoc, exists_eq, exists_eq', if_true, if_false, Bool.false_eq_true, Bool.true_eq_false, reduceCtorEq, not_true_eq_false, not_false_eq_true]
    refine ⟨fun σ H' => Same H H' ∧ H' x = some (excO x (.ref a.c_NoPlay)) ∧ σ = [some (.ref p), some (.int n), some (.ref x), none], ?_, ?_⟩
    · simp only [rIn, rPopAt, rClear, rCatT, tBM0, rExtend, tComp_eq, rRep, rCount, rSum, rEqD, rNeD, rEqE, capS, gLst, tNoTest, tChain, gSub, tSl, tNoPart, tPart, rSlL, rSetL, rAppend, Option.bind_some, Option.bind_none, Option.join_some, Option.map_some, List.getElem?_cons_zero, List.getElem?_cons_succ, tRaise, tCallS, tTry, rCat, V.str.injEq, V.ty.injEq, rNeT, rEqT, tBM, tFor_eq, iRng1, iRng2, iList, iTup, tSeq, tNext, tAsg, gName, gTup, gCons, gNil, tCB, tCons, tNil, tVar, tC, tOp, tUn, tTest, tB, tTru, tAnd, tOr, tNot, tAndV, tOrV, tNotV, tIf, tIfS, tRet, tRetN, tDrop, tLst, tTup, tPar, tCall, rI, rI0, rU, rEq, rNe, rIxL, rIxT, L2.start, truV_int, truV_bl, scal_int, scal_bl, List.map_cons, List.map_nil, List.length_cons, List.length_nil, List.replicate, List.cons_append, List.nil_append, List.append_nil, List.getElem?_cons_zero, List.getElem?_cons_succ, Option.some.injEq, exists_eq_left', exists_eq_left, exists_and_left, List.cons.injEq, V.int.injEq, V.ref.injEq, V.bl.injEq, and_true, true_and, List.set_cons_zero, List.set_cons_succ, Nat.reduceAdd, Nat.reduceSub, Int.reduceToNat, Int.reducePow, Int.reduceNeg, Int.reduceMul, Int.reduceAdd, Int.reduceSub, decide_eq_true_eq, Bool.not_eq_true', decide_eq_false_iff_not, exists_const, and_assoc, exists_eq, exists_eq', if_true, if_false, Bool.false_eq_true, Bool.true_eq_false, reduceCtorEq, not_true_eq_false, not_false_eq_true]
      refine ⟨by decide, fun u hu => ?_⟩
      refine isiT_exc (same_new hu _ _ _ h1) I.ec upd_same rfl (b := false) (by simp only [PySem.W.kitAny, I.k_NoBoxes, I.k_NoBudget, I.k_NoKind]) ⟨false, rfl, iteF ?_⟩
      refine ⟨by decide, fun u2 hu2 => ?_⟩
      refine isiT_exc (same_new hu2 _ _ _ (same_new hu _ _ _ h1)) I.ec upd_same rfl (b := false) (by simp only [PySem.W.kitAny, I.k_NoName, I.k_NoNumber, I.k_NoOrder, I.k_NoPlan]) ⟨false, rfl, iteF ?_⟩
      exact ⟨(s1.add hu).add hu2, same_new hu2 _ _ _ (same_new hu _ _ _ h1)⟩
    rintro σ H1 ⟨s1, h1, rfl⟩
    simp only [rIn, rPopAt, rClear, rCatT, tBM0, rExtend, tComp_eq, rRep, rCount, rSum, rEqD, rNeD, rEqE, capS, gLst, tNoTest, tChain, gSub, tSl, tNoPart, tPart, rSlL, rSetL, rAppend, Option.bind_some, Option.bind_none, Option.join_some, Option.map_some, List.getElem?_cons_zero, List.getElem?_cons_succ, tRaise, tCallS, tTry, rCat, V.str.injEq, V.ty.injEq, rNeT, rEqT, tBM, tFor_eq, iRng1, iRng2, iList, iTup, tSeq, tNext, tAsg, gName, gTup, gCons, gNil, tCB, tCons, tNil, tVar, tC, tOp, tUn, tTest, tB, tTru, tAnd, tOr, tNot, tAndV, tOrV, tNotV, tIf, tIfS, tRet, tRetN, tDrop, tLst, tTup, tPar, tCall, rI, rI0, rU, rEq, rNe, rIxL, rIxT, L2.start, truV_int, truV_bl, scal_int, scal_bl, List.map_cons, List.map_nil, List.length_cons, List.length_nil, List.replicate, List.cons_append, List.nil_append, List.append_nil, List.getElem?_cons_zero, List.getElem?_cons_succ, Option.some.injEq, exists_eq_left', exists_eq_left, exists_and_left, List.cons.injEq, V.int.injEq, V.ref.injEq, V.bl.injEq, and_true, true_and, List.set_cons_zero, List.set_cons_succ, Nat.reduceAdd, Nat.reduceSub, Int.reduceToNat, Int.reducePow, Int.reduceNeg, Int.reduceMul, Int.reduceAdd, Int.reduceSub, decide_eq_true_eq, Bool.not_eq_true', decide_eq_false_iff_not, exists_const, and_assoc, exists_eq, exists_eq', if_true, if_false, Bool.false_eq_true, Bool.true_eq_false, reduceCtorEq, not_true_eq_false, not_false_eq_true]
    refine ⟨fun σ H' => Same H H' ∧ H' x = some (excO x (.ref a.c_NoPlay)) ∧ σ = [some (.ref p), some (.int n), some (.ref x), none], ?_, ?_⟩
    · simp only [rIn, rPopAt, rClear, rCatT, tBM0, rExtend, tComp_eq, rRep, rCount, rSum, rEqD, rNeD, rEqE, capS, gLst, tNoTest, tChain, gSub, tSl, tNoPart, tPart, rSlL, rSetL, rAppend, Option.bind_some, Option.bind_none, Option.join_some, Option.map_some, List.getElem?_cons_zero, List.getElem?_cons_succ, tRaise, tCallS, tTry, rCat, V.str.injEq, V.ty.injEq, rNeT, rEqT, tBM, tFor_eq, iRng1, iRng2, iList, iTup, tSeq, tNext, tAsg, gName, gTup, gCons, gNil, tCB, tCons, tNil, tVar, tC, tOp, tUn, tTest, tB, tTru, tAnd, tOr, tNot, tAndV, tOrV, tNotV, tIf, tIfS, tRet, tRetN, tDrop, tLst, tTup, tPar, tCall, rI, rI0, rU, rEq, rNe, rIxL, rIxT, L2.start, truV_int, truV_bl, scal_int, scal_bl, List.map_cons, List.map_nil, List.length_cons, List.length_nil, List.replicate, List.cons_append, List.nil_append, List.append_nil, List.getElem?_cons_zero, List.getElem?_cons_succ, Option.some.injEq, exists_eq_left', exists_eq_left, exists_and_left, List.cons.injEq, V.int.injEq, V.ref.injEq, V.bl.injEq, and_true, true_and, List.set_cons_zero, List.set_cons_succ, Nat.reduceAdd, Nat.reduceSub, Int.reduceToNat, Int.reducePow, Int.reduceNeg, Int.reduceMul, Int.reduceAdd, Int.reduceSub, decide_eq_true_eq, Bool.not_eq_true', decide_eq_false_iff_not, exists_const, and_assoc, exists_eq, exists_eq', if_true, if_false, Bool.false_eq_true, Bool.true_eq_false, reduceCtorEq, not_true_eq_false, not_false_eq_true]
      refine ⟨by decide, fun u hu => ?_⟩
      refine isiT_exc (same_new hu _ _ _ h1) I.ec upd_same rfl (b := false) (by simp only [PySem.W.kitAny, I.k_NoRoad, I.k_NoRow, I.k_NoTable, I.k_NoText]) ⟨false, rfl, iteF ?_⟩
      refine ⟨by decide, fun u2 hu2 => ?_⟩
      refine isiT_exc (same_new hu2 _ _ _ (same_new hu _ _ _ h1)) I.ec upd_same rfl (b := false) (by simp only [PySem.W.kitAny, I.k_NoTree, I.k_NoTurns, I.k_NoWeb, I.k_NoWeights]) ⟨false, rfl, iteF ?_⟩
      exact ⟨(s1.add hu).add hu2, same_new hu2 _ _ _ (same_new hu _ _ _ h1)⟩
    rintro σ H1 ⟨s1, h1, rfl⟩
    simp only [rIn, rPopAt, rClear, rCatT, tBM0, rExtend, tComp_eq, rRep, rCount, rSum, rEqD, rNeD, rEqE, capS, gLst, tNoTest, tChain, gSub, tSl, tNoPart, tPart, rSlL, rSetL, rAppend, Option.bind_some, Option.bind_none, Option.join_some, Option.map_some, List.getElem?_cons_zero, List.getElem?_cons_succ, tRaise, tCallS, tTry, rCat, V.str.injEq, V.ty.injEq, rNeT, rEqT, tBM, tFor_eq, iRng1, iRng2, iList, iTup, tSeq, tNext, tAsg, gName, gTup, gCons, gNil, tCB, tCons, tNil, tVar, tC, tOp, tUn, tTest, tB, tTru, tAnd, tOr, tNot, tAndV, tOrV, tNotV, tIf, tIfS, tRet, tRetN, tDrop, tLst, tTup, tPar, tCall, rI, rI0, rU, rEq, rNe, rIxL, rIxT, L2.start, truV_int, truV_bl, scal_int, scal_bl, List.map_cons, List.map_nil, List.length_cons, List.length_nil, List.replicate, List.cons_append, List.nil_append, List.append_nil, List.getElem?_cons_zero, List.getElem?_cons_succ, Option.some.injEq, exists_eq_left', exists_eq_left, exists_and_left, List.cons.injEq, V.int.injEq, V.ref.injEq, V.bl.injEq, and_true, true_and, List.set_cons_zero, List.set_cons_succ, Nat.reduceAdd, Nat.reduceSub, Int.reduceToNat, Int.reducePow, Int.reduceNeg, Int.reduceMul, Int.reduceAdd, Int.reduceSub, decide_eq_true_eq, Bool.not_eq_true', decide_eq_false_iff_not, exists_const, and_assoc, exists_eq, exists_eq', if_true, if_false, Bool.false_eq_true, Bool.true_eq_false, reduceCtorEq, not_true_eq_false, not_false_eq_true]
    refine ⟨fun σ H' => Same H H' ∧ σ = [some (.ref p), some (.int n), some (.ref x), none], ?_, ?_⟩
    · simp only [rIn, rPopAt, rClear, rCatT, tBM0, rExtend, tComp_eq, rRep, rCount, rSum, rEqD, rNeD, rEqE, capS, gLst, tNoTest, tChain, gSub, tSl, tNoPart, tPart, rSlL, rSetL, rAppend, Option.bind_some, Option.bind_none, Option.join_some, Option.map_some, List.getElem?_cons_zero, List.getElem?_cons_succ, tRaise, tCallS, tTry, rCat, V.str.injEq, V.ty.injEq, rNeT, rEqT, tBM, tFor_eq, iRng1, iRng2, iList, iTup, tSeq, tNext, tAsg, gName, gTup, gCons, gNil, tCB, tCons, tNil, tVar, tC, tOp, tUn, tTest, tB, tTru, tAnd, tOr, tNot, tAndV, tOrV, tNotV, tIf, tIfS, tRet, tRetN, tDrop, tLst, tTup, tPar, tCall, rI, rI0, rU, rEq, rNe, rIxL, rIxT, L2.start, truV_int, truV_bl, scal_int, scal_bl, List.map_cons, List.map_nil, List.length_cons, List.length_nil, List.replicate, List.cons_append, List.nil_append, List.append_nil, List.getElem?_cons_zero, List.getElem?_cons_succ, Option.some.injEq, exists_eq_left', exists_eq_left, exists_and_left, List.cons.injEq, V.int.injEq, V.ref.injEq, V.bl.injEq, and_true, true_and, List.set_cons_zero, List.set_cons_succ, Nat.reduceAdd, Nat.reduceSub, Int.reduceToNat, Int.reducePow, Int.reduceNeg, Int.reduceMul, Int.reduceAdd, Int.reduceSub, decide_eq_true_eq, Bool.not_eq_true', decide_eq_false_iff_not, exists_const, and_assoc, exists_eq, exists_eq', if_true, if_false, Bool.false_eq_true, Bool.true_eq_false, reduceCtorEq, not_true_eq_false, not_false_eq_true]
      refine ⟨by decide, fun u hu => ?_⟩
      have h2 := same_new hu (.tup [V.ref a.c_NoPaper, V.ref a.c_TooGreat]) _ _ h1
      refine isiT_exc h2 I.ec upd_same rfl (b := false) (by simp only [PySem.W.kitAny, I.k_NoPaper, I.k_TooGreat]) ⟨false, rfl, iteF ?_⟩
      refine isi_exc rfl h2 I.ec I.k_NoPlay ⟨true, rfl, ite2 (fun z => absurd z (by decide)) (fun _ => ?_)⟩
      refine isi_exc rfl h2 I.ec I.k_ValueError ⟨true, rfl, ite2 (fun z => absurd z (by decide)) (fun _ => ?_)⟩
      exact s1.add hu
    rintro σ H1 ⟨s1, rfl⟩
    simp only [rIn, rPopAt, rClear, rCatT, tBM0, rExtend, tComp_eq, rRep, rCount, rSum, rEqD, rNeD, rEqE, capS, gLst, tNoTest, tChain, gSub, tSl, tNoPart, tPart, rSlL, rSetL, rAppend, Option.bind_some, Option.bind_none, Option.join_some, Option.map_some, List.getElem?_cons_zero, List.getElem?_cons_succ, tRaise, tCallS, tTry, rCat, V.str.injEq, V.ty.injEq, rNeT, rEqT, tBM, tFor_eq, iRng1, iRng2, iList, iTup, tSeq, tNext, tAsg, gName, gTup, gCons, gNil, tCB, tCons, tNil, tVar, tC, tOp, tUn, tTest, tB, tTru, tAnd, tOr, tNot, tAndV, tOrV, tNotV, tIf, tIfS, tRet, tRetN, tDrop, tLst, tTup, tPar, tCall, rI, rI0, rU, rEq, rNe, rIxL, rIxT, L2.start, truV_int, truV_bl, scal_int, scal_bl, List.map_cons, List.map_nil, List.length_cons, List.length_nil, List.replicate, List.cons_append, List.nil_append, List.append_nil, List.getElem?_cons_zero, List.getElem?_cons_succ, Option.some.injEq, exists_eq_left', exists_eq_left, exists_and_left, List.cons.injEq, V.int.injEq, V.ref.injEq, V.bl.injEq, and_true, true_and, List.set_cons_zero, List.set_cons_succ, Nat.reduceAdd, Nat.reduceSub, Int.reduceToNat, Int.reducePow, Int.reduceNeg, Int.reduceMul, Int.reduceAdd, Int.reduceSub, decide_eq_true_eq, Bool.not_eq_true', decide_eq_false_iff_not, exists_const, and_assoc, exists_eq, exists_eq', if_true, if_false, Bool.false_eq_true, Bool.true_eq_false, reduceCtorEq, not_true_eq_false, not_false_eq_true]
    exact ⟨by decide, fun r hr => q1 hn r _ (s1.add hr) upd_same⟩
  · refine ⟨fun _ _ => False, ?_, fun _ _ h => h.elim⟩
    simp only [rIn, rPopAt, rClear, rCatT, tBM0, rExtend, tComp_eq, rRep, rCount, rSum, rEqD, rNeD, rEqE, capS, gLst, tNoTest, tChain, gSub, tSl, tNoPart, tPart, rSlL, rSetL, rAppend, Option.bind_some, Option.bind_none, Option.join_some, Option.map_some, List.getElem?_cons_zero, List.getElem?_cons_succ, tRaise, tCallS, tTry, rCat, V.str.injEq, V.ty.injEq, rNeT, rEqT, tBM, tFor_eq, iRng1, iRng2, iList, iTup, tSeq, tNext, tAsg, gName, gTup, gCons, gNil, tCB, tCons, tNil, tVar, tC, tOp, tUn, tTest, tB, tTru, tAnd, tOr, tNot, tAndV, tOrV, tNotV, tIf, tIfS, tRet, tRetN, tDrop, tLst, tTup, tPar, tCall, rI, rI0, rU, rEq, rNe, rIxL, rIxT, L2.start, truV_int, truV_bl, scal_int, scal_bl, List.map_cons, List.map_nil, List.length_cons, List.length_nil, List.replicate, List.cons_append, List.nil_append, List.append_nil, List.getElem?_cons_zero, List.getElem?_cons_succ, Option.some.injEq, exists_eq_left', exists_eq_left, exists_and_left, List.cons.injEq, V.int.injEq, V.ref.injEq, V.bl.injEq, and_true, true_and, List.set_cons_zero, List.set_cons_succ, Nat.reduceAdd, Nat.reduceSub, Int.reduceToNat, Int.reducePow, Int.reduceNeg, Int.reduceMul, Int.reduceAdd, Int.reduceSub, decide_eq_true_eq, Bool.not_eq_true', decide_eq_false_iff_not, exists_const, and_assoc, exists_eq, exists_eq', if_true, if_false, Bool.false_eq_true, Bool.true_eq_false, reduceCtorEq, not_true_eq_false, not_false_eq_true]
    exact ⟨by decide, fun r hr => q2 n0 n1 r _ (s1.add hr) upd_same⟩
theorem sc__law_refused : FnScope ["_law_paper_here", "_law_number", "_law_caught", "e"] ["_law_paper_here", "_law_number"] (defScope s__law_refused) := ⟨rfl, rfl, rfl, by decide +kernel, rfl, by decide +kernel, by decide +kernel⟩
theorem ok__law_refused (T : Txt K mg a) : FnOk P w K mg base CX0 3 a.f__law_refused a.d__law_refused ["_law_paper_here", "_law_number"] (spRefused K) := by
  have G_played := ok_played (P := P) (w := w) (base := base) T
  refine T.F__law_refused.ok sc__law_refused (fun vs H Q E h => ?_) (fun cdv A outer s H vs Q E hr h => ?_)
  · obtain ⟨p, its, n, rfl, B, q1, q2⟩ := h
    rfl
  obtain ⟨p, its, n, rfl, B, q1, q2⟩ := h
  exact ⟨t__law_refused K a, (pss_cons (ps_set (i := 2) sc__law_refused.nd rfl (Or.inl rfl) pe_non)
  (pss_cons (ps_try (i := 3) T.m_HideError T.x_HideError rfl sc__law_refused.nd rfl rfl rfl rfl rfl rfl (fun pins E' => (pss_one (ps_expr (pe_callS G_played (hr.mono (by decide)) rfl T.m_played T.F_played.kp T.b_played .nil passS (pa_cons (pv 0) (pa_cons (pv 1) pa_nil))))))
  (fun ea => (pss_one (ps_set (i := 2) sc__law_refused.nd rfl (Or.inl rfl) (pv 3)))))
  (pss_cons (ps_cut (ps_if (pt_cmpR op_isN (pv 2) pe_non (nomark _)) (pss_one (ps_ret (pe_lst pa_nil))) pss_nil))
  (pss_cons (ps_cut (ps_if (PW.pt (pw_or (pt_val (pe_callB call_isiT rfl T.z_isinstance PyProof.Rows.boot_isinstance (pa_cons (pv 2) (pa_cons (pe_tup (pa_cons (pe_glob rfl T.m_NoBoxes rfl) (pa_cons (pe_glob rfl T.m_NoBudget rfl) (pa_cons (pe_glob rfl T.m_NoKind rfl) pa_nil)))) pa_nil)))) (pw_or1 (pt_val (pe_callB call_isiT rfl T.z_isinstance PyProof.Rows.boot_isinstance (pa_cons (pv 2) (pa_cons (pe_tup (pa_cons (pe_glob rfl T.m_NoName rfl) (pa_cons (pe_glob rfl T.m_NoNumber rfl) (pa_cons (pe_glob rfl T.m_NoOrder rfl) (pa_cons (pe_glob rfl T.m_NoPlan rfl) pa_nil))))) pa_nil))))))) (pss_one (ps_ret (pe_lst (pa_cons pe_str pa_nil)))) pss_nil))
  (pss_cons (ps_cut (ps_if (PW.pt (pw_or (pt_val (pe_callB call_isiT rfl T.z_isinstance PyProof.Rows.boot_isinstance (pa_cons (pv 2) (pa_cons (pe_tup (pa_cons (pe_glob rfl T.m_NoRoad rfl) (pa_cons (pe_glob rfl T.m_NoRow rfl) (pa_cons (pe_glob rfl T.m_NoTable rfl) (pa_cons (pe_glob rfl T.m_NoText rfl) pa_nil))))) pa_nil)))) (pw_or1 (pt_val (pe_callB call_isiT rfl T.z_isinstance PyProof.Rows.boot_isinstance (pa_cons (pv 2) (pa_cons (pe_tup (pa_cons (pe_glob rfl T.m_NoTree rfl) (pa_cons (pe_glob rfl T.m_NoTurns rfl) (pa_cons (pe_glob rfl T.m_NoWeb rfl) (pa_cons (pe_glob rfl T.m_NoWeights rfl) pa_nil))))) pa_nil))))))) (pss_one (ps_ret (pe_lst (pa_cons pe_str pa_nil)))) pss_nil))
  (pss_cons (ps_cut (ps_if (PW.pt (pw_or (pt_val (pe_callB call_isiT rfl T.z_isinstance PyProof.Rows.boot_isinstance (pa_cons (pv 2) (pa_cons (pe_tup (pa_cons (pe_glob rfl T.m_NoPaper rfl) (pa_cons (pe_glob rfl T.m_TooGreat rfl) pa_nil))) pa_nil)))) (pw_or (pt_not (pt_val (pe_callB call_isinst rfl T.z_isinstance PyProof.Rows.boot_isinstance (pa_cons (pv 2) (pa_cons (pe_glob rfl T.m_NoPlay rfl) pa_nil))))) (pw_or1 (pt_not (pt_val (pe_callB call_isinst rfl T.z_isinstance PyProof.Rows.boot_isinstance (pa_cons (pv 2) (pa_cons (pe_bltn rfl T.z_ValueError boot_ValueError rfl) pa_nil))))))))) (pss_one (ps_ret (pe_lst (pa_cons pe_str pa_nil)))) pss_nil))
  (pss_one (ps_ret (pe_lst (pa_cons pe_str pa_nil)))))))))),
    rd__law_refused T.I B q1 q2⟩

theorem shows_one {x : Str} {n : Nat} {p : Addr} (h : H p = some (.lst [.str x])) : Shows K H (n + 1) (.lst [.str x]) (.ref p) := by
  refine .lst (SqL.of h) rfl fun i z w e1 e2 => ?_
  match i, e1, e2 with
  | 0, e1, e2 =>
    cases e1
    cases e2
    exact .str _
theorem shows_nil {n : Nat} {p : Addr} (h : H p = some (.lst [])) : Shows K H (n + 1) (.lst []) (.ref p) :=
  .lst (SqL.of h) rfl fun i z w e1 e2 => nomatch e1
def t_law (K : PySem.W.Frag) : TS :=
  (tSeq (tAsg (tCall (spPurse K) [] E0 (tCons (tVar 0) tNil)) (gName 1))
  (tSeq (tAsg (tCall (spPaper K) [] E0 (tCons (tVar 1) tNil)) (gName 2))
  (tSeq (tAsg (tCall (spCopy K) [] E0 (tCons (tVar 2) tNil)) (gName 3))
  (tSeq (tAsg (tCall (spWholeOf K) [] E0 (tCons (tVar 3) tNil)) (gName 4))
  (tSeq (tAsg (tCall spDraw [] E0 (tCons (tVar 1) (tCons (tOp (rI CPow fun i j => .int (i ^ j.toNat)) (tC (.int 10)) (tC (.int 29))) tNil))) (gName 5))
  (tSeq (tFor (iList K (tLst (tCons (tUn (rU fun i => .int (-i)) (tC (.int 1))) (tCons (tVar 4) (tCons (tOp (rI0 fun i j => .int (i + j)) (tVar 4) (tVar 5)) (tCons (tOp (rI0 fun i j => .int (i - j)) (tUn (rU fun i => .int (-i)) (tC (.int 1))) (tVar 5)) tNil)))))) (gName 6)
  (tSeq (tCut (tIfS (tTest (tOp (rNeD K) (tCall (spRefused K) [] E0 (tCons (tVar 3) (tCons (tVar 6) tNil))) (tLst (tCons (tC (.str "play")) tNil)))) (tRet (tC (.bl false))) tNext))
  (tIfS (tOr (tTest (tOp (rNeD K) (tCall (spRefused K) [] E0 (tCons (tVar 3) (tCons (tC (.int 0)) tNil))) (tLst tNil))) (tTest (tOp (rNeD K) (tCall (spRefused K) [] E0 (tCons (tVar 3) (tCons (tOp (rI0 fun i j => .int (i - j)) (tVar 4) (tC (.int 1))) tNil))) (tLst tNil)))) (tRet (tC (.bl false))) tNext)))
  (tRet (tOp (rEqD K) (tVar 3) (tVar 2)))))))))
theorem rd_law {p : Addr} {ns0 : List Int} (hS : SqL K H p (ns0.map V.int)) (hl : ns0.length ≤ 63) (q : ∀ (H' : Hp), Q (.bl true) H') :
    t_law K { nx := fun _ H' => Q .non H', rt := Q } (L2.start ["_law_script", "_law_purse_here", "_law_paper_here", "_law_handed", "_law_whole", "_law_far", "_law_number"] [.ref p]) H := by
  unfold t_law
  simp only [rIn, rPopAt, rClear, rCatT, tBM0, rExtend, tComp_eq, rRep, rCount, rSum, rEqD, rNeD, rEqE, capS, gLst, tNoTest, tChain, gSub, tSl, tNoPart, tPart, rSlL, rSetL, rAppend, Option.bind_some, Option.bind_none, Option.join_some, Option.map_some, List.getElem?_cons_zero, List.getElem?_cons_succ, tRaise, tCallS, tTry, rCat, V.str.injEq, V.ty.injEq, rNeT, rEqT, tBM, tFor_eq, iRng1, iRng2, iList, iTup, tSeq, tNext, tAsg, gName, gTup, gCons, gNil, tCB, tCons, tNil, tVar, tC, tOp, tUn, tTest, tB, tTru, tAnd, tOr, tNot, tAndV, tOrV, tNotV, tIf, tIfS, tRet, tRetN, tDrop, tLst, tTup, tPar, tCall, rI, rI0, rU, rEq, rNe, rIxL, rIxT, L2.start, truV_int, truV_bl, scal_int, scal_bl, List.map_cons, List.map_nil, List.length_cons, List.length_nil, List.replicate, List.cons_append, List.nil_append, List.append_nil, List.getElem?_cons_zero, List.getElem?_cons_succ, Option.some.injEq, exists_eq_left', exists_eq_left, exists_and_left, List.cons.injEq, V.int.injEq, V.ref.injEq, V.bl.injEq, and_true, true_and, List.set_cons_zero, List.set_cons_succ, Nat.reduceAdd, Nat.reduceSub, Int.reduceToNat, Int.reducePow, Int.reduceNeg, Int.reduceMul, Int.reduceAdd, Int.reduceSub, decide_eq_true_eq, Bool.not_eq_true', decide_eq_false_iff_not, exists_const, and_assoc, exists_eq, exists_eq', if_true, if_false, Bool.false_eq_true, Bool.true_eq_false, reduceCtorEq, not_true_eq_false, not_false_eq_true]
  refine ⟨p, ns0, rfl, hS, fun u c H1 s1 P1 => ?_⟩
  simp only [rIn, rPopAt, rClear, rCatT, tBM0, rExtend, tComp_eq, rRep, rCount, rSum, rEqD, rNeD, rEqE, capS, gLst, tNoTest, tChain, gSub, tSl, tNoPart, tPart, rSlL, rSetL, rAppend, Option.bind_some, Option.bind_none, Option.join_some, Option.map_some, List.getElem?_cons_zero, List.getElem?_cons_succ, tRaise, tCallS, tTry, rCat, V.str.injEq, V.ty.injEq, rNeT, rEqT, tBM, tFor_eq, iRng1, iRng2, iList, iTup, tSeq, tNext, tAsg, gName, gTup, gCons, gNil, tCB, tCons, tNil, tVar, tC, tOp, tUn, tTest, tB, tTru, tAnd, tOr, tNot, tAndV, tOrV, tNotV, tIf, tIfS, tRet, tRetN, tDrop, tLst, tTup, tPar, tCall, rI, rI0, rU, rEq, rNe, rIxL, rIxT, L2.start, truV_int, truV_bl, scal_int, scal_bl, List.map_cons, List.map_nil, List.length_cons, List.length_nil, List.replicate, List.cons_append, List.nil_append, List.append_nil, List.getElem?_cons_zero, List.getElem?_cons_succ, Option.some.injEq, exists_eq_left', exists_eq_left, exists_and_left, List.cons.injEq, V.int.injEq, V.ref.injEq, V.bl.injEq, and_true, true_and, List.set_cons_zero, List.set_cons_succ, Nat.reduceAdd, Nat.reduceSub, Int.reduceToNat, Int.reducePow, Int.reduceNeg, Int.reduceMul, Int.reduceAdd, Int.reduceSub, decide_eq_true_eq, Bool.not_eq_true', decide_eq_false_iff_not, exists_const, and_assoc, exists_eq, exists_eq', if_true, if_false, Bool.false_eq_true, Bool.true_eq_false, reduceCtorEq, not_true_eq_false, not_false_eq_true]
  refine ⟨u, c, 0, rfl, P1, by decide, fun pa its t2 H2 s2 P2 ht2 B2 => ?_⟩
  have t20 := P2.t0
  simp only [rIn, rPopAt, rClear, rCatT, tBM0, rExtend, tComp_eq, rRep, rCount, rSum, rEqD, rNeD, rEqE, capS, gLst, tNoTest, tChain, gSub, tSl, tNoPart, tPart, rSlL, rSetL, rAppend, Option.bind_some, Option.bind_none, Option.join_some, Option.map_some, List.getElem?_cons_zero, List.getElem?_cons_succ, tRaise, tCallS, tTry, rCat, V.str.injEq, V.ty.injEq, rNeT, rEqT, tBM, tFor_eq, iRng1, iRng2, iList, iTup, tSeq, tNext, tAsg, gName, gTup, gCons, gNil, tCB, tCons, tNil, tVar, tC, tOp, tUn, tTest, tB, tTru, tAnd, tOr, tNot, tAndV, tOrV, tNotV, tIf, tIfS, tRet, tRetN, tDrop, tLst, tTup, tPar, tCall, rI, rI0, rU, rEq, rNe, rIxL, rIxT, L2.start, truV_int, truV_bl, scal_int, scal_bl, List.map_cons, List.map_nil, List.length_cons, List.length_nil, List.replicate, List.cons_append, List.nil_append, List.append_nil, List.getElem?_cons_zero, List.getElem?_cons_succ, Option.some.injEq, exists_eq_left', exists_eq_left, exists_and_left, List.cons.injEq, V.int.injEq, V.ref.injEq, V.bl.injEq, and_true, true_and, List.set_cons_zero, List.set_cons_succ, Nat.reduceAdd, Nat.reduceSub, Int.reduceToNat, Int.reducePow, Int.reduceNeg, Int.reduceMul, Int.reduceAdd, Int.reduceSub, decide_eq_true_eq, Bool.not_eq_true', decide_eq_false_iff_not, exists_const, and_assoc, exists_eq, exists_eq', if_true, if_false, Bool.false_eq_true, Bool.true_eq_false, reduceCtorEq, not_true_eq_false, not_false_eq_true]
  refine ⟨pa, u, c, t2, its, rfl, P2, B2, fun hd jts H3 s3 CO ek => ?_⟩
  have P3 := P2.same s3
  have B3 := B2.same (off_same u c s3)
  simp only [rIn, rPopAt, rClear, rCatT, tBM0, rExtend, tComp_eq, rRep, rCount, rSum, rEqD, rNeD, rEqE, capS, gLst, tNoTest, tChain, gSub, tSl, tNoPart, tPart, rSlL, rSetL, rAppend, Option.bind_some, Option.bind_none, Option.join_some, Option.map_some, List.getElem?_cons_zero, List.getElem?_cons_succ, tRaise, tCallS, tTry, rCat, V.str.injEq, V.ty.injEq, rNeT, rEqT, tBM, tFor_eq, iRng1, iRng2, iList, iTup, tSeq, tNext, tAsg, gName, gTup, gCons, gNil, tCB, tCons, tNil, tVar, tC, tOp, tUn, tTest, tB, tTru, tAnd, tOr, tNot, tAndV, tOrV, tNotV, tIf, tIfS, tRet, tRetN, tDrop, tLst, tTup, tPar, tCall, rI, rI0, rU, rEq, rNe, rIxL, rIxT, L2.start, truV_int, truV_bl, scal_int, scal_bl, List.map_cons, List.map_nil, List.length_cons, List.length_nil, List.replicate, List.cons_append, List.nil_append, List.append_nil, List.getElem?_cons_zero, List.getElem?_cons_succ, Option.some.injEq, exists_eq_left', exists_eq_left, exists_and_left, List.cons.injEq, V.int.injEq, V.ref.injEq, V.bl.injEq, and_true, true_and, List.set_cons_zero, List.set_cons_succ, Nat.reduceAdd, Nat.reduceSub, Int.reduceToNat, Int.reducePow, Int.reduceNeg, Int.reduceMul, Int.reduceAdd, Int.reduceSub, decide_eq_true_eq, Bool.not_eq_true', decide_eq_false_iff_not, exists_const, and_assoc, exists_eq, exists_eq', if_true, if_false, Bool.false_eq_true, Bool.true_eq_false, reduceCtorEq, not_true_eq_false, not_false_eq_true]
  refine ⟨hd, jts, rfl, CO.same (off_le u c H3), fun H4 s4 => ?_⟩
  have C4 := CO.same (off_same u c s4)
  have B4 := B3.same (off_same u c s4)
  have P4 := P3.same s4
  simp only [rIn, rPopAt, rClear, rCatT, tBM0, rExtend, tComp_eq, rRep, rCount, rSum, rEqD, rNeD, rEqE, capS, gLst, tNoTest, tChain, gSub, tSl, tNoPart, tPart, rSlL, rSetL, rAppend, Option.bind_some, Option.bind_none, Option.join_some, Option.map_some, List.getElem?_cons_zero, List.getElem?_cons_succ, tRaise, tCallS, tTry, rCat, V.str.injEq, V.ty.injEq, rNeT, rEqT, tBM, tFor_eq, iRng1, iRng2, iList, iTup, tSeq, tNext, tAsg, gName, gTup, gCons, gNil, tCB, tCons, tNil, tVar, tC, tOp, tUn, tTest, tB, tTru, tAnd, tOr, tNot, tAndV, tOrV, tNotV, tIf, tIfS, tRet, tRetN, tDrop, tLst, tTup, tPar, tCall, rI, rI0, rU, rEq, rNe, rIxL, rIxT, L2.start, truV_int, truV_bl, scal_int, scal_bl, List.map_cons, List.map_nil, List.length_cons, List.length_nil, List.replicate, List.cons_append, List.nil_append, List.append_nil, List.getElem?_cons_zero, List.getElem?_cons_succ, Option.some.injEq, exists_eq_left', exists_eq_left, exists_and_left, List.cons.injEq, V.int.injEq, V.ref.injEq, V.bl.injEq, and_true, true_and, List.set_cons_zero, List.set_cons_succ, Nat.reduceAdd, Nat.reduceSub, Int.reduceToNat, Int.reducePow, Int.reduceNeg, Int.reduceMul, Int.reduceAdd, Int.reduceSub, decide_eq_true_eq, Bool.not_eq_true', decide_eq_false_iff_not, exists_const, and_assoc, exists_eq, exists_eq', if_true, if_false, Bool.false_eq_true, Bool.true_eq_false, reduceCtorEq, not_true_eq_false, not_false_eq_true]
  refine ⟨pow29, ?_⟩
  refine ⟨u, c, t2, _, rfl, P4, by omega, by decide, by decide, fun far H5 f0 f1 o5 P5 => ?_⟩
  have C5 : Pap K H5 hd jts := by
    have := C4
    rw [← o5] at this
    exact this.same (off_le u c H5)
  have B5 : Pap K H5 pa its := by
    have := B4
    rw [← o5] at this
    exact this.same (off_le u c H5)
  obtain ⟨T1, T2⟩ := C5.totB
  simp only [rIn, rPopAt, rClear, rCatT, tBM0, rExtend, tComp_eq, rRep, rCount, rSum, rEqD, rNeD, rEqE, capS, gLst, tNoTest, tChain, gSub, tSl, tNoPart, tPart, rSlL, rSetL, rAppend, Option.bind_some, Option.bind_none, Option.join_some, Option.map_some, List.getElem?_cons_zero, List.getElem?_cons_succ, tRaise, tCallS, tTry, rCat, V.str.injEq, V.ty.injEq, rNeT, rEqT, tBM, tFor_eq, iRng1, iRng2, iList, iTup, tSeq, tNext, tAsg, gName, gTup, gCons, gNil, tCB, tCons, tNil, tVar, tC, tOp, tUn, tTest, tB, tTru, tAnd, tOr, tNot, tAndV, tOrV, tNotV, tIf, tIfS, tRet, tRetN, tDrop, tLst, tTup, tPar, tCall, rI, rI0, rU, rEq, rNe, rIxL, rIxT, L2.start, truV_int, truV_bl, scal_int, scal_bl, List.map_cons, List.map_nil, List.length_cons, List.length_nil, List.replicate, List.cons_append, List.nil_append, List.append_nil, List.getElem?_cons_zero, List.getElem?_cons_succ, Option.some.injEq, exists_eq_left', exists_eq_left, exists_and_left, List.cons.injEq, V.int.injEq, V.ref.injEq, V.bl.injEq, and_true, true_and, List.set_cons_zero, List.set_cons_succ, Nat.reduceAdd, Nat.reduceSub, Int.reduceToNat, Int.reducePow, Int.reduceNeg, Int.reduceMul, Int.reduceAdd, Int.reduceSub, decide_eq_true_eq, Bool.not_eq_true', decide_eq_false_iff_not, exists_const, and_assoc, exists_eq, exists_eq', if_true, if_false, Bool.false_eq_true, Bool.true_eq_false, reduceCtorEq, not_true_eq_false, not_false_eq_true]
  refine ⟨by decide, fun nl hnl => ?_⟩
  have s6 := same_new hnl (.lst [V.int (-1), V.int (tot jts), V.int (tot jts + far), V.int (-1 - far)])
  have h6 : (L2.upd H5 nl (.lst [V.int (-1), V.int (tot jts), V.int (tot jts + far), V.int (-1 - far)])) nl = some (.lst [V.int (-1), V.int (tot jts), V.int (tot jts + far), V.int (-1 - far)]) := upd_same
  generalize L2.upd H5 nl (.lst [V.int (-1), V.int (tot jts), V.int (tot jts + far), V.int (-1 - far)]) = H6 at s6 h6 ⊢
  refine ⟨⟨_, SqL.of h6⟩, ?_⟩
  refine for_listF (K := K) (xs := [V.int (-1), V.int (tot jts), V.int (tot jts + far), V.int (-1 - far)]) (fun i σ H' => Same H6 H' ∧ ∃ x, σ = [some (.ref p), some (.ref u), some (.ref pa), some (.ref hd), some (.int (tot jts)), some (.int far), x]) ⟨.refl _, _, rfl⟩ ?_ ?_ ?_
  · rintro i σ H' _ ⟨s, _⟩
    exact SqL.of (s _ _ h6)
  · rintro i x σ H7 hx ⟨s7, y, rfl⟩
    obtain ⟨n, rfl, hn⟩ : ∃ n, x = .int n ∧ (n < 0 ∨ tot jts ≤ n) := by
      match i, hx with
      | 0, hx => cases hx; exact ⟨_, rfl, .inl (by decide)⟩
      | 1, hx => cases hx; exact ⟨_, rfl, .inr (Int.le_refl _)⟩
      | 2, hx => cases hx; exact ⟨_, rfl, .inr (by omega)⟩
      | 3, hx => cases hx; exact ⟨_, rfl, .inl (by omega)⟩
    have C7 := C5.same (s6.trans s7)
    simp only [rIn, rPopAt, rClear, rCatT, tBM0, rExtend, tComp_eq, rRep, rCount, rSum, rEqD, rNeD, rEqE, capS, gLst, tNoTest, tChain, gSub, tSl, tNoPart, tPart, rSlL, rSetL, rAppend, Option.bind_some, Option.bind_none, Option.join_some, Option.map_some, List.getElem?_cons_zero, List.getElem?_cons_succ, tRaise, tCallS, tTry, rCat, V.str.injEq, V.ty.injEq, rNeT, rEqT, tBM, tFor_eq, iRng1, iRng2, iList, iTup, tSeq, tNext, tAsg, gName, gTup, gCons, gNil, tCB, tCons, tNil, tVar, tC, tOp, tUn, tTest, tB, tTru, tAnd, tOr, tNot, tAndV, tOrV, tNotV, tIf, tIfS, tRet, tRetN, tDrop, tLst, tTup, tPar, tCall, rI, rI0, rU, rEq, rNe, rIxL, rIxT, L2.start, truV_int, truV_bl, scal_int, scal_bl, List.map_cons, List.map_nil, List.length_cons, List.length_nil, List.replicate, List.cons_append, List.nil_append, List.append_nil, List.getElem?_cons_zero, List.getElem?_cons_succ, Option.some.injEq, exists_eq_left', exists_eq_left, exists_and_left, List.cons.injEq, V.int.injEq, V.ref.injEq, V.bl.injEq, and_true, true_and, List.set_cons_zero, List.set_cons_succ, Nat.reduceAdd, Nat.reduceSub, Int.reduceToNat, Int.reducePow, Int.reduceNeg, Int.reduceMul, Int.reduceAdd, Int.reduceSub, decide_eq_true_eq, Bool.not_eq_true', decide_eq_false_iff_not, exists_const, and_assoc, exists_eq, exists_eq', if_true, if_false, Bool.false_eq_true, Bool.true_eq_false, reduceCtorEq, not_true_eq_false, not_false_eq_true]
    refine ⟨fun σ H' => Same H6 H' ∧ σ = [some (.ref p), some (.ref u), some (.ref pa), some (.ref hd), some (.int (tot jts)), some (.int far), some (.int n)], ?_, ?_⟩
    · simp only [rIn, rPopAt, rClear, rCatT, tBM0, rExtend, tComp_eq, rRep, rCount, rSum, rEqD, rNeD, rEqE, capS, gLst, tNoTest, tChain, gSub, tSl, tNoPart, tPart, rSlL, rSetL, rAppend, Option.bind_some, Option.bind_none, Option.join_some, Option.map_some, List.getElem?_cons_zero, List.getElem?_cons_succ, tRaise, tCallS, tTry, rCat, V.str.injEq, V.ty.injEq, rNeT, rEqT, tBM, tFor_eq, iRng1, iRng2, iList, iTup, tSeq, tNext, tAsg, gName, gTup, gCons, gNil, tCB, tCons, tNil, tVar, tC, tOp, tUn, tTest, tB, tTru, tAnd, tOr, tNot, tAndV, tOrV, tNotV, tIf, tIfS, tRet, tRetN, tDrop, tLst, tTup, tPar, tCall, rI, rI0, rU, rEq, rNe, rIxL, rIxT, L2.start, truV_int, truV_bl, scal_int, scal_bl, List.map_cons, List.map_nil, List.length_cons, List.length_nil, List.replicate, List.cons_append, List.nil_append, List.append_nil, List.getElem?_cons_zero, List.getElem?_cons_succ, Option.some.injEq, exists_eq_left', exists_eq_left, exists_and_left, List.cons.injEq, V.int.injEq, V.ref.injEq, V.bl.injEq, and_true, true_and, List.set_cons_zero, List.set_cons_succ, Nat.reduceAdd, Nat.reduceSub, Int.reduceToNat, Int.reducePow, Int.reduceNeg, Int.reduceMul, Int.reduceAdd, Int.reduceSub, decide_eq_true_eq, Bool.not_eq_true', decide_eq_false_iff_not, exists_const, and_assoc, exists_eq, exists_eq', if_true, if_false, Bool.false_eq_true, Bool.true_eq_false, reduceCtorEq, not_true_eq_false, not_false_eq_true]
      refine ⟨hd, jts, n, rfl, C7, fun _ r H8 s8 hr => ?_, fun n0 n1 => by omega⟩
      refine ⟨by decide, fun e he => ?_⟩
      refine ⟨1, by decide, [.str "play"], .inl ⟨shows_one (same_new he _ _ _ hr), shows_one upd_same⟩, ?_⟩
      exact (s7.trans s8).add he
    · rintro σ H8 ⟨s8, rfl⟩
      have C8 := C5.same (s6.trans s8)
      simp only [rIn, rPopAt, rClear, rCatT, tBM0, rExtend, tComp_eq, rRep, rCount, rSum, rEqD, rNeD, rEqE, capS, gLst, tNoTest, tChain, gSub, tSl, tNoPart, tPart, rSlL, rSetL, rAppend, Option.bind_some, Option.bind_none, Option.join_some, Option.map_some, List.getElem?_cons_zero, List.getElem?_cons_succ, tRaise, tCallS, tTry, rCat, V.str.injEq, V.ty.injEq, rNeT, rEqT, tBM, tFor_eq, iRng1, iRng2, iList, iTup, tSeq, tNext, tAsg, gName, gTup, gCons, gNil, tCB, tCons, tNil, tVar, tC, tOp, tUn, tTest, tB, tTru, tAnd, tOr, tNot, tAndV, tOrV, tNotV, tIf, tIfS, tRet, tRetN, tDrop, tLst, tTup, tPar, tCall, rI, rI0, rU, rEq, rNe, rIxL, rIxT, L2.start, truV_int, truV_bl, scal_int, scal_bl, List.map_cons, List.map_nil, List.length_cons, List.length_nil, List.replicate, List.cons_append, List.nil_append, List.append_nil, List.getElem?_cons_zero, List.getElem?_cons_succ, Option.some.injEq, exists_eq_left', exists_eq_left, exists_and_left, List.cons.injEq, V.int.injEq, V.ref.injEq, V.bl.injEq, and_true, true_and, List.set_cons_zero, List.set_cons_succ, Nat.reduceAdd, Nat.reduceSub, Int.reduceToNat, Int.reducePow, Int.reduceNeg, Int.reduceMul, Int.reduceAdd, Int.reduceSub, decide_eq_true_eq, Bool.not_eq_true', decide_eq_false_iff_not, exists_const, and_assoc, exists_eq, exists_eq', if_true, if_false, Bool.false_eq_true, Bool.true_eq_false, reduceCtorEq, not_true_eq_false, not_false_eq_true]
      refine ⟨hd, jts, 0, rfl, C8, fun h => by omega, fun _ _ r H9 s9 hr => ?_⟩
      refine ⟨by decide, fun e he => ?_⟩
      refine ⟨1, by decide, [], .inl ⟨shows_nil (same_new he _ _ _ hr), shows_nil upd_same⟩, ?_⟩
      have sA := s9.add he (o := .lst [])
      generalize L2.upd H9 e (.lst []) = HA at sA ⊢
      refine ⟨hd, jts, _, rfl, C8.same sA, fun h => by omega, fun _ _ r HB sB hr => ?_⟩
      refine ⟨by decide, fun e he => ?_⟩
      refine ⟨1, by decide, [], .inl ⟨shows_nil (same_new he _ _ _ hr), shows_nil upd_same⟩, ?_⟩
      exact (s8.trans (sA.trans sB)).add he
  · rintro σ H7 ⟨s7, y, rfl⟩
    simp only [rIn, rPopAt, rClear, rCatT, tBM0, rExtend, tComp_eq, rRep, rCount, rSum, rEqD, rNeD, rEqE, capS, gLst, tNoTest, tChain, gSub, tSl, tNoPart, tPart, rSlL, rSetL, rAppend, Option.bind_some, Option.bind_none, Option.join_some, Option.map_some, List.getElem?_cons_zero, List.getElem?_cons_succ, tRaise, tCallS, tTry, rCat, V.str.injEq, V.ty.injEq, rNeT, rEqT, tBM, tFor_eq, iRng1, iRng2, iList, iTup, tSeq, tNext, tAsg, gName, gTup, gCons, gNil, tCB, tCons, tNil, tVar, tC, tOp, tUn, tTest, tB, tTru, tAnd, tOr, tNot, tAndV, tOrV, tNotV, tIf, tIfS, tRet, tRetN, tDrop, tLst, tTup, tPar, tCall, rI, rI0, rU, rEq, rNe, rIxL, rIxT, L2.start, truV_int, truV_bl, scal_int, scal_bl, List.map_cons, List.map_nil, List.length_cons, List.length_nil, List.replicate, List.cons_append, List.nil_append, List.append_nil, List.getElem?_cons_zero, List.getElem?_cons_succ, Option.some.injEq, exists_eq_left', exists_eq_left, exists_and_left, List.cons.injEq, V.int.injEq, V.ref.injEq, V.bl.injEq, and_true, true_and, List.set_cons_zero, List.set_cons_succ, Nat.reduceAdd, Nat.reduceSub, Int.reduceToNat, Int.reducePow, Int.reduceNeg, Int.reduceMul, Int.reduceAdd, Int.reduceSub, decide_eq_true_eq, Bool.not_eq_true', decide_eq_false_iff_not, exists_const, and_assoc, exists_eq, exists_eq', if_true, if_false, Bool.false_eq_true, Bool.true_eq_false, reduceCtorEq, not_true_eq_false, not_false_eq_true]
    have sh := (C5.same (s6.trans s7)).shows
    rw [ek] at sh
    exact ⟨3, by decide, _, .inl ⟨sh, (B5.same (s6.trans s7)).shows⟩, q _⟩
theorem sc_law : FnScope ["_law_script", "_law_purse_here", "_law_paper_here", "_law_handed", "_law_whole", "_law_far", "_law_number"] ["_law_script"] (defScope s_law) := ⟨rfl, rfl, rfl, by decide +kernel, rfl, by decide +kernel, by decide +kernel⟩
theorem ok_law (T : Txt K mg a) : FnOk P w K mg base CX0 4 a.f_law a.d_law ["_law_script"] (spLaw K) := by
  have G__law_copy := ok__law_copy (P := P) (w := w) (base := base) T
  have G__law_draw := ok__law_draw (P := P) (w := w) (base := base) T
  have G__law_paper := ok__law_paper (P := P) (w := w) (base := base) T
  have G__law_purse := ok__law_purse (P := P) (w := w) (base := base) T
  have G__law_refused := ok__law_refused (P := P) (w := w) (base := base) T
  have G_whole_of := ok_whole_of (P := P) (w := w) (base := base) T
  refine T.F_law.ok sc_law (fun vs H Q E h => ?_) (fun cdv A outer s H vs Q E hr h => ?_)
  · obtain ⟨p, ns, rfl, hS, hl, q⟩ := h
    rfl
  obtain ⟨p, ns, rfl, hS, hl, q⟩ := h
  exact ⟨t_law K, (pss_cons (ps_set (i := 1) sc_law.nd rfl (Or.inl rfl) (pe_call G__law_purse (hr.mono (by decide)) rfl T.m__law_purse T.F__law_purse.kp T.b__law_purse .nil pass0 (pa_cons (pv 0) pa_nil)))
  (pss_cons (ps_set (i := 2) sc_law.nd rfl (Or.inl rfl) (pe_call G__law_paper (hr.mono (by decide)) rfl T.m__law_paper T.F__law_paper.kp T.b__law_paper .nil pass0 (pa_cons (pv 1) pa_nil)))
  (pss_cons (ps_set (i := 3) sc_law.nd rfl (Or.inl rfl) (pe_call G__law_copy (hr.mono (by decide)) rfl T.m__law_copy T.F__law_copy.kp T.b__law_copy .nil pass0 (pa_cons (pv 2) pa_nil)))
  (pss_cons (ps_set (i := 4) sc_law.nd rfl (Or.inl rfl) (pe_call G_whole_of (hr.mono (by decide)) rfl T.m_whole_of T.F_whole_of.kp T.b_whole_of .nil pass0 (pa_cons (pv 3) pa_nil)))
  (pss_cons (ps_set (i := 5) sc_law.nd rfl (Or.inl rfl) (pe_call G__law_draw (hr.mono (by decide)) rfl T.m__law_draw T.F__law_draw.kp T.b__law_draw .nil pass0 (pa_cons (pv 1) (pa_cons (pe_op op_pow pe_int pe_int) pa_nil))))
  (pss_cons (ps_for PassesOwn.never rfl (pi_list (pe_lst (pa_cons (pe_un un_neg pe_int) (pa_cons (pv 4) (pa_cons (pe_op op_add (pv 4) (pv 5)) (pa_cons (pe_op op_sub (pe_un un_neg pe_int) (pv 5)) pa_nil)))))) (pg_name (i := 6) sc_law.nd rfl (Or.inl rfl))
  (pss_cons (ps_cut (ps_if (pt_cmpR (op_neD hr.units) (pe_call G__law_refused (hr.mono (by decide)) rfl T.m__law_refused T.F__law_refused.kp T.b__law_refused .nil pass0 (pa_cons (pv 3) (pa_cons (pv 6) pa_nil))) (pe_lst (pa_cons pe_str pa_nil)) (nomark _)) (pss_one (ps_ret pe_bl)) pss_nil))
  (pss_one (ps_if (PW.pt (pw_or (pt_cmpR (op_neD hr.units) (pe_call G__law_refused (hr.mono (by decide)) rfl T.m__law_refused T.F__law_refused.kp T.b__law_refused .nil pass0 (pa_cons (pv 3) (pa_cons pe_int pa_nil))) (pe_lst pa_nil) (nomark _)) (pw_or1 (pt_cmpR (op_neD hr.units) (pe_call G__law_refused (hr.mono (by decide)) rfl T.m__law_refused T.F__law_refused.kp T.b__law_refused .nil pass0 (pa_cons (pv 3) (pa_cons (pe_op op_sub (pv 4) pe_int) pa_nil))) (pe_lst pa_nil) (nomark _))))) (pss_one (ps_ret pe_bl)) pss_nil))))
  (pss_one (ps_ret (pe_cmpR (op_eqD hr.units) (pv 3) (pv 2) (nomark _)))))))))),
    rd_law hS hl q⟩

end
theorem txt_mk {K : PySem.W.Frag} {h : Heap} {mg : Str → Option Value} (X : K.In h) (G : h.Ns mainGlobals mg)
    {f0 : Addr} {od0 an0 : Option Addr} {sl0 : Array (Option Value)} {oc0 kV0 dc0 pm0 cd0 ct0 : Value}
    (a0 : PySem.W.nsIn K mainGlobals "is_whole" = some (some (.ref f0))) (l0 : K.lookup f0 = some ⟨oc0, od0, .func (PySem.W.fnOf "is_whole" "is_whole" (defArgs s_is_whole) (defBody s_is_whole) (defScope s_is_whole) .none kV0 dc0 pm0 an0 cd0 ct0), sl0⟩) (c0 : PySem.W.codeIn K cd0 "is_whole" = true) (k0 : PySem.W.keepIn K (.ref f0) = true)
    {f1 : Addr} {od1 an1 : Option Addr} {sl1 : Array (Option Value)} {oc1 kV1 dc1 pm1 cd1 ct1 : Value}
    (a1 : PySem.W.nsIn K mainGlobals "whole_of" = some (some (.ref f1))) (l1 : K.lookup f1 = some ⟨oc1, od1, .func (PySem.W.fnOf "whole_of" "whole_of" (defArgs s_whole_of) (defBody s_whole_of) (defScope s_whole_of) .none kV1 dc1 pm1 an1 cd1 ct1), sl1⟩) (c1 : PySem.W.codeIn K cd1 "whole_of" = true) (k1 : PySem.W.keepIn K (.ref f1) = true)
    {f2 : Addr} {od2 an2 : Option Addr} {sl2 : Array (Option Value)} {oc2 kV2 dc2 pm2 cd2 ct2 : Value}
    (a2 : PySem.W.nsIn K mainGlobals "played" = some (some (.ref f2))) (l2 : K.lookup f2 = some ⟨oc2, od2, .func (PySem.W.fnOf "played" "played" (defArgs s_played) (defBody s_played) (defScope s_played) .none kV2 dc2 pm2 an2 cd2 ct2), sl2⟩) (c2 : PySem.W.codeIn K cd2 "played" = true) (k2 : PySem.W.keepIn K (.ref f2) = true)
    {f3 : Addr} {od3 an3 : Option Addr} {sl3 : Array (Option Value)} {oc3 kV3 dc3 pm3 cd3 ct3 : Value}
    (a3 : PySem.W.nsIn K mainGlobals "_law_purse" = some (some (.ref f3))) (l3 : K.lookup f3 = some ⟨oc3, od3, .func (PySem.W.fnOf "_law_purse" "_law_purse" (defArgs s__law_purse) (defBody s__law_purse) (defScope s__law_purse) .none kV3 dc3 pm3 an3 cd3 ct3), sl3⟩) (c3 : PySem.W.codeIn K cd3 "_law_purse" = true) (k3 : PySem.W.keepIn K (.ref f3) = true)
    {f4 : Addr} {od4 an4 : Option Addr} {sl4 : Array (Option Value)} {oc4 kV4 dc4 pm4 cd4 ct4 : Value}
    (a4 : PySem.W.nsIn K mainGlobals "_law_draw" = some (some (.ref f4))) (l4 : K.lookup f4 = some ⟨oc4, od4, .func (PySem.W.fnOf "_law_draw" "_law_draw" (defArgs s__law_draw) (defBody s__law_draw) (defScope s__law_draw) .none kV4 dc4 pm4 an4 cd4 ct4), sl4⟩) (c4 : PySem.W.codeIn K cd4 "_law_draw" = true) (k4 : PySem.W.keepIn K (.ref f4) = true)
    {f5 : Addr} {od5 an5 : Option Addr} {sl5 : Array (Option Value)} {oc5 kV5 dc5 pm5 cd5 ct5 : Value}
    (a5 : PySem.W.nsIn K mainGlobals "_law_plan_of" = some (some (.ref f5))) (l5 : K.lookup f5 = some ⟨oc5, od5, .func (PySem.W.fnOf "_law_plan_of" "_law_plan_of" (defArgs s__law_plan_of) (defBody s__law_plan_of) (defScope s__law_plan_of) .none kV5 dc5 pm5 an5 cd5 ct5), sl5⟩) (c5 : PySem.W.codeIn K cd5 "_law_plan_of" = true) (k5 : PySem.W.keepIn K (.ref f5) = true)
    {f6 : Addr} {od6 an6 : Option Addr} {sl6 : Array (Option Value)} {oc6 kV6 dc6 pm6 cd6 ct6 : Value}
    (a6 : PySem.W.nsIn K mainGlobals "_law_paper" = some (some (.ref f6))) (l6 : K.lookup f6 = some ⟨oc6, od6, .func (PySem.W.fnOf "_law_paper" "_law_paper" (defArgs s__law_paper) (defBody s__law_paper) (defScope s__law_paper) .none kV6 dc6 pm6 an6 cd6 ct6), sl6⟩) (c6 : PySem.W.codeIn K cd6 "_law_paper" = true) (k6 : PySem.W.keepIn K (.ref f6) = true)
    {f7 : Addr} {od7 an7 : Option Addr} {sl7 : Array (Option Value)} {oc7 kV7 dc7 pm7 cd7 ct7 : Value}
    (a7 : PySem.W.nsIn K mainGlobals "_law_copy" = some (some (.ref f7))) (l7 : K.lookup f7 = some ⟨oc7, od7, .func (PySem.W.fnOf "_law_copy" "_law_copy" (defArgs s__law_copy) (defBody s__law_copy) (defScope s__law_copy) .none kV7 dc7 pm7 an7 cd7 ct7), sl7⟩) (c7 : PySem.W.codeIn K cd7 "_law_copy" = true) (k7 : PySem.W.keepIn K (.ref f7) = true)
    {f8 : Addr} {od8 an8 : Option Addr} {sl8 : Array (Option Value)} {oc8 kV8 dc8 pm8 cd8 ct8 : Value}
    (a8 : PySem.W.nsIn K mainGlobals "_law_refused" = some (some (.ref f8))) (l8 : K.lookup f8 = some ⟨oc8, od8, .func (PySem.W.fnOf "_law_refused" "_law_refused" (defArgs s__law_refused) (defBody s__law_refused) (defScope s__law_refused) .none kV8 dc8 pm8 an8 cd8 ct8), sl8⟩) (c8 : PySem.W.codeIn K cd8 "_law_refused" = true) (k8 : PySem.W.keepIn K (.ref f8) = true)
    {f9 : Addr} {od9 an9 : Option Addr} {sl9 : Array (Option Value)} {oc9 kV9 dc9 pm9 cd9 ct9 : Value}
    (a9 : PySem.W.nsIn K mainGlobals "law" = some (some (.ref f9))) (l9 : K.lookup f9 = some ⟨oc9, od9, .func (PySem.W.fnOf "law" "law" (defArgs s_law) (defBody s_law) (defScope s_law) .none kV9 dc9 pm9 an9 cd9 ct9), sl9⟩) (c9 : PySem.W.codeIn K cd9 "law" = true) (k9 : PySem.W.keepIn K (.ref f9) = true)
    (z_sum : PySem.W.nsIn K mainGlobals "sum" = some none)
    (z_list : PySem.W.nsIn K mainGlobals "list" = some none)
    (z_range : PySem.W.nsIn K mainGlobals "range" = some none)
    (z_len : PySem.W.nsIn K mainGlobals "len" = some none)
    (z_isinstance : PySem.W.nsIn K mainGlobals "isinstance" = some none)
    (z_int : PySem.W.nsIn K mainGlobals "int" = some none)
    (z_bool : PySem.W.nsIn K mainGlobals "bool" = some none)
    (z_ValueError : PySem.W.nsIn K mainGlobals "ValueError" = some none)
    {c_HideError : Addr} (ac_HideError : PySem.W.nsIn K mainGlobals "HideError" = some (some (.ref c_HideError)))
    {c_NoWeb : Addr} (ac_NoWeb : PySem.W.nsIn K mainGlobals "NoWeb" = some (some (.ref c_NoWeb)))
    {c_NoPlan : Addr} (ac_NoPlan : PySem.W.nsIn K mainGlobals "NoPlan" = some (some (.ref c_NoPlan)))
    {c_NoText : Addr} (ac_NoText : PySem.W.nsIn K mainGlobals "NoText" = some (some (.ref c_NoText)))
    {c_NoKind : Addr} (ac_NoKind : PySem.W.nsIn K mainGlobals "NoKind" = some (some (.ref c_NoKind)))
    {c_TooGreat : Addr} (ac_TooGreat : PySem.W.nsIn K mainGlobals "TooGreat" = some (some (.ref c_TooGreat)))
    {c_NoTree : Addr} (ac_NoTree : PySem.W.nsIn K mainGlobals "NoTree" = some (some (.ref c_NoTree)))
    {c_NoWeights : Addr} (ac_NoWeights : PySem.W.nsIn K mainGlobals "NoWeights" = some (some (.ref c_NoWeights)))
    {c_NoTurns : Addr} (ac_NoTurns : PySem.W.nsIn K mainGlobals "NoTurns" = some (some (.ref c_NoTurns)))
    {c_NoNumber : Addr} (ac_NoNumber : PySem.W.nsIn K mainGlobals "NoNumber" = some (some (.ref c_NoNumber)))
    {c_NoBoxes : Addr} (ac_NoBoxes : PySem.W.nsIn K mainGlobals "NoBoxes" = some (some (.ref c_NoBoxes)))
    {c_NoBudget : Addr} (ac_NoBudget : PySem.W.nsIn K mainGlobals "NoBudget" = some (some (.ref c_NoBudget)))
    {c_NoName : Addr} (ac_NoName : PySem.W.nsIn K mainGlobals "NoName" = some (some (.ref c_NoName)))
    {c_NoOrder : Addr} (ac_NoOrder : PySem.W.nsIn K mainGlobals "NoOrder" = some (some (.ref c_NoOrder)))
    {c_NoPlay : Addr} (ac_NoPlay : PySem.W.nsIn K mainGlobals "NoPlay" = some (some (.ref c_NoPlay)))
    {c_NoRoad : Addr} (ac_NoRoad : PySem.W.nsIn K mainGlobals "NoRoad" = some (some (.ref c_NoRoad)))
    {c_NoRow : Addr} (ac_NoRow : PySem.W.nsIn K mainGlobals "NoRow" = some (some (.ref c_NoRow)))
    {c_NoTable : Addr} (ac_NoTable : PySem.W.nsIn K mainGlobals "NoTable" = some (some (.ref c_NoTable)))
    {c_NoPaper : Addr} (ac_NoPaper : PySem.W.nsIn K mainGlobals "NoPaper" = some (some (.ref c_NoPaper)))
    (xc_HideError : PySem.W.excIn K c_HideError veMro "ValueError.__new__" = true)
    (xc_NoPlay : PySem.W.excIn K c_NoPlay veMro "ValueError.__new__" = true)
    (i_k_NoWeb : PySem.W.kitOne K (.ref c_NoPlay) (.ref c_NoWeb) = some false)
    (i_k_NoPlan : PySem.W.kitOne K (.ref c_NoPlay) (.ref c_NoPlan) = some false)
    (i_k_NoText : PySem.W.kitOne K (.ref c_NoPlay) (.ref c_NoText) = some false)
    (i_k_NoKind : PySem.W.kitOne K (.ref c_NoPlay) (.ref c_NoKind) = some false)
    (i_k_TooGreat : PySem.W.kitOne K (.ref c_NoPlay) (.ref c_TooGreat) = some false)
    (i_k_NoTree : PySem.W.kitOne K (.ref c_NoPlay) (.ref c_NoTree) = some false)
    (i_k_NoWeights : PySem.W.kitOne K (.ref c_NoPlay) (.ref c_NoWeights) = some false)
    (i_k_NoTurns : PySem.W.kitOne K (.ref c_NoPlay) (.ref c_NoTurns) = some false)
    (i_k_NoNumber : PySem.W.kitOne K (.ref c_NoPlay) (.ref c_NoNumber) = some false)
    (i_k_NoBoxes : PySem.W.kitOne K (.ref c_NoPlay) (.ref c_NoBoxes) = some false)
    (i_k_NoBudget : PySem.W.kitOne K (.ref c_NoPlay) (.ref c_NoBudget) = some false)
    (i_k_NoName : PySem.W.kitOne K (.ref c_NoPlay) (.ref c_NoName) = some false)
    (i_k_NoOrder : PySem.W.kitOne K (.ref c_NoPlay) (.ref c_NoOrder) = some false)
    (i_k_NoPlay : PySem.W.kitOne K (.ref c_NoPlay) (.ref c_NoPlay) = some true)
    (i_k_NoRoad : PySem.W.kitOne K (.ref c_NoPlay) (.ref c_NoRoad) = some false)
    (i_k_NoRow : PySem.W.kitOne K (.ref c_NoPlay) (.ref c_NoRow) = some false)
    (i_k_NoTable : PySem.W.kitOne K (.ref c_NoPlay) (.ref c_NoTable) = some false)
    (i_k_NoPaper : PySem.W.kitOne K (.ref c_NoPlay) (.ref c_NoPaper) = some false)
    (i_k_ValueError : PySem.W.kitOne K (.ref c_NoPlay) (.type "ValueError") = some true)
    (i_sub : PySem.W.subIn K (.ref c_NoPlay) (.ref c_HideError) = some true)
    (e_ga : PySem.W.findIn K (.ref c_NoPlay) "__getattribute__" = some (some (.builtin "BaseException.__getattribute__")))
    (e_gn : PySem.W.findIn K (.ref c_NoPlay) "__getattr__" = some none)
    (e_cl : PySem.W.findIn K (.ref c_NoPlay) "__class__" = some (some (.builtin "object.__class__")))
    (e_mb : PySem.W.mroIn K c_NoPlay (.type "BaseException") = some true)
    (e_mo : PySem.W.mroIn K c_NoPlay (.type "object") = some true)
    : Txt K mg ⟨f0, PySem.W.fnOf "is_whole" "is_whole" (defArgs s_is_whole) (defBody s_is_whole) (defScope s_is_whole) .none kV0 dc0 pm0 an0 cd0 ct0, f1, PySem.W.fnOf "whole_of" "whole_of" (defArgs s_whole_of) (defBody s_whole_of) (defScope s_whole_of) .none kV1 dc1 pm1 an1 cd1 ct1, f2, PySem.W.fnOf "played" "played" (defArgs s_played) (defBody s_played) (defScope s_played) .none kV2 dc2 pm2 an2 cd2 ct2, f3, PySem.W.fnOf "_law_purse" "_law_purse" (defArgs s__law_purse) (defBody s__law_purse) (defScope s__law_purse) .none kV3 dc3 pm3 an3 cd3 ct3, f4, PySem.W.fnOf "_law_draw" "_law_draw" (defArgs s__law_draw) (defBody s__law_draw) (defScope s__law_draw) .none kV4 dc4 pm4 an4 cd4 ct4, f5, PySem.W.fnOf "_law_plan_of" "_law_plan_of" (defArgs s__law_plan_of) (defBody s__law_plan_of) (defScope s__law_plan_of) .none kV5 dc5 pm5 an5 cd5 ct5, f6, PySem.W.fnOf "_law_paper" "_law_paper" (defArgs s__law_paper) (defBody s__law_paper) (defScope s__law_paper) .none kV6 dc6 pm6 an6 cd6 ct6, f7, PySem.W.fnOf "_law_copy" "_law_copy" (defArgs s__law_copy) (defBody s__law_copy) (defScope s__law_copy) .none kV7 dc7 pm7 an7 cd7 ct7, f8, PySem.W.fnOf "_law_refused" "_law_refused" (defArgs s__law_refused) (defBody s__law_refused) (defScope s__law_refused) .none kV8 dc8 pm8 an8 cd8 ct8, f9, PySem.W.fnOf "law" "law" (defArgs s_law) (defBody s_law) (defScope s_law) .none kV9 dc9 pm9 an9 cd9 ct9, c_HideError, c_NoWeb, c_NoPlan, c_NoText, c_NoKind, c_TooGreat, c_NoTree, c_NoWeights, c_NoTurns, c_NoNumber, c_NoBoxes, c_NoBudget, c_NoName, c_NoOrder, c_NoPlay, c_NoRoad, c_NoRow, c_NoTable, c_NoPaper⟩ := by
  have F0 := fun_mk (st := s_is_whole) l0 c0 k0
  have b0 := F0.binds (ps := ["thing"]) fun _ _ _ _ _ _ us hl => match us, hl with | [_], _ => rfl
  have F1 := fun_mk (st := s_whole_of) l1 c1 k1
  have b1 := F1.binds (ps := ["paper"]) fun _ _ _ _ _ _ us hl => match us, hl with | [_], _ => rfl
  have F2 := fun_mk (st := s_played) l2 c2 k2
  have b2 := F2.binds (ps := ["paper", "number"]) fun _ _ _ _ _ _ us hl => match us, hl with | [_, _], _ => rfl
  have F3 := fun_mk (st := s__law_purse) l3 c3 k3
  have b3 := F3.binds (ps := ["_law_script"]) fun _ _ _ _ _ _ us hl => match us, hl with | [_], _ => rfl
  have F4 := fun_mk (st := s__law_draw) l4 c4 k4
  have b4 := F4.binds (ps := ["_law_purse_here", "_law_out_of"]) fun _ _ _ _ _ _ us hl => match us, hl with | [_, _], _ => rfl
  have F5 := fun_mk (st := s__law_plan_of) l5 c5 k5
  have b5 := F5.binds (ps := ["_law_purse_here"]) fun _ _ _ _ _ _ us hl => match us, hl with | [_], _ => rfl
  have F6 := fun_mk (st := s__law_paper) l6 c6 k6
  have b6 := F6.binds (ps := ["_law_purse_here"]) fun _ _ _ _ _ _ us hl => match us, hl with | [_], _ => rfl
  have F7 := fun_mk (st := s__law_copy) l7 c7 k7
  have b7 := F7.binds (ps := ["_law_paper_here"]) fun _ _ _ _ _ _ us hl => match us, hl with | [_], _ => rfl
  have F8 := fun_mk (st := s__law_refused) l8 c8 k8
  have b8 := F8.binds (ps := ["_law_paper_here", "_law_number"]) fun _ _ _ _ _ _ us hl => match us, hl with | [_, _], _ => rfl
  have F9 := fun_mk (st := s_law) l9 c9 k9
  have b9 := F9.binds (ps := ["_law_script"]) fun _ _ _ _ _ _ us hl => match us, hl with | [_], _ => rfl
  exact ⟨F0, b0, PySem.W.mg_of X G a0, F1, b1, PySem.W.mg_of X G a1, F2, b2, PySem.W.mg_of X G a2, F3, b3, PySem.W.mg_of X G a3, F4, b4, PySem.W.mg_of X G a4, F5, b5, PySem.W.mg_of X G a5, F6, b6, PySem.W.mg_of X G a6, F7, b7, PySem.W.mg_of X G a7, F8, b8, PySem.W.mg_of X G a8, F9, b9, PySem.W.mg_of X G a9, PySem.W.mg_none_of X G z_sum, PySem.W.mg_none_of X G z_list, PySem.W.mg_none_of X G z_range, PySem.W.mg_none_of X G z_len, PySem.W.mg_none_of X G z_isinstance, PySem.W.mg_none_of X G z_int, PySem.W.mg_none_of X G z_bool, PySem.W.mg_none_of X G z_ValueError, PySem.W.mg_of X G ac_HideError, PySem.W.mg_of X G ac_NoWeb, PySem.W.mg_of X G ac_NoPlan, PySem.W.mg_of X G ac_NoText, PySem.W.mg_of X G ac_NoKind, PySem.W.mg_of X G ac_TooGreat, PySem.W.mg_of X G ac_NoTree, PySem.W.mg_of X G ac_NoWeights, PySem.W.mg_of X G ac_NoTurns, PySem.W.mg_of X G ac_NoNumber, PySem.W.mg_of X G ac_NoBoxes, PySem.W.mg_of X G ac_NoBudget, PySem.W.mg_of X G ac_NoName, PySem.W.mg_of X G ac_NoOrder, PySem.W.mg_of X G ac_NoPlay, PySem.W.mg_of X G ac_NoRoad, PySem.W.mg_of X G ac_NoRow, PySem.W.mg_of X G ac_NoTable, PySem.W.mg_of X G ac_NoPaper, xc_HideError, xc_NoPlay, ⟨i_k_NoWeb, i_k_NoPlan, i_k_NoText, i_k_NoKind, i_k_TooGreat, i_k_NoTree, i_k_NoWeights, i_k_NoTurns, i_k_NoNumber, i_k_NoBoxes, i_k_NoBudget, i_k_NoName, i_k_NoOrder, i_k_NoPlay, i_k_NoRoad, i_k_NoRow, i_k_NoTable, i_k_NoPaper, i_k_ValueError, i_sub, excCls_of ⟨e_ga, e_gn, e_cl, e_mb, e_mo, xc_NoPlay⟩⟩⟩

theorem all_mk {K : PySem.W.Frag} {w : World} {mg : Str → Option Value} {h : Heap} {fa : Addr} {P : Program} (X : K.In h) (G : h.Ns mainGlobals mg) (hfa : mg "law" = some (.ref fa)) {a : Ad} (T : Txt K mg a) :
    ∃ fd : FuncData, (∀ (s : Shared) (u : Value), BindsTo s fd ⟨[u], []⟩ [("_law_script", u)]) ∧ ∀ base : Heap, K.In base → base.Ns mainGlobals mg → FnOk P w K mg base CX0 4 fa fd ["_law_script"] (spLaw K) := by
  have e := hfa.symm.trans T.m_law
  cases e
  refine ⟨a.d_law, fun s v => ?_, fun base _ _ => ok_law T⟩
  obtain ⟨oc, od, kV, doc, pm, an, cdv, ct, osl, e, lk, hcd⟩ := T.F_law.ex
  rw [e]
  exact .of_eq rfl
theorem walk {l : PySem.W.OpenLaw} {q : Program} {loose : List Str} {XP : (Str → Option Value) → Heap → Prop} {YP : World → Heap → Prop} {d : DefRec} {K : Params → PySem.W.Frag} (hn : l.most = some 63) (hdf : d.params.defaults = [])
    (hY : ∀ (w : World) (h : Heap), YP w h → (K w.params).In h)
    (F : ∀ (w : World) (mg : Str → Option Value) (fa : Addr) (h : Heap), (K w.params).In h → h.Ns mainGlobals mg → mg d.name = some (.ref fa) →
      ∃ fd : FuncData, (∀ (s : Shared) (u : Value), BindsTo s fd ⟨[u], []⟩ [("_law_script", u)]) ∧ ∀ base : Heap, (K w.params).In base → base.Ns mainGlobals mg → FnOk l.prog w (K w.params) mg base CX0 4 fa fd ["_law_script"] (spLaw (K w.params))) :
    PySem.W.WalkO q loose XP YP l.row.toRowW d [] (fun f vs => PySem.call f vs) :=
  L2.walk_of (n := 63) (k := 4) (x := "_law_script") (CX := fun _ => CX0) (sp := fun w => spLaw (K w.params)) hn (by decide) hdf ⟨rfl, by decide, by decide⟩ hY F (fun _ _ a ns hl _ hS => ⟨a, ns, rfl, hS, hl, fun _ => rfl⟩) fun _ _ _ _ _ z => z
end My
open PySem PySem.W PyProof.Rows
set_option maxRecDepth 100000 in
set_option maxHeartbeats 0 in
theorem PySem.Challenge.cw_hideworth_k77_plays_refused_holds : PySem.Challenge.rw_hideworth_k77_plays_refused.Holds := by
  w_on; o_law; k_head; (case hw => w_witness2)
  k_fill
  refine My.walk (l := PySem.Challenge.rw_hideworth_k77_plays_refused) rfl rfl (fun w h Y => PySem.W.kIn_of Y) ?F
  case F =>
    intro w mg fa h KX G hmg
    refine' My.all_mk KX G hmg (My.txt_mk KX G ?a0 ?l0 ?c0 ?k0 ?a1 ?l1 ?c1 ?k1 ?a2 ?l2 ?c2 ?k2 ?a3 ?l3 ?c3 ?k3 ?a4 ?l4 ?c4 ?k4 ?a5 ?l5 ?c5 ?k5 ?a6 ?l6 ?c6 ?k6 ?a7 ?l7 ?c7 ?k7 ?a8 ?l8 ?c8 ?k8 ?a9 ?l9 ?c9 ?k9 ?z_sum ?z_list ?z_range ?z_len ?z_isinstance ?z_int ?z_bool ?z_ValueError ?ac_HideError ?ac_NoWeb ?ac_NoPlan ?ac_NoText ?ac_NoKind ?ac_TooGreat ?ac_NoTree ?ac_NoWeights ?ac_NoTurns ?ac_NoNumber ?ac_NoBoxes ?ac_NoBudget ?ac_NoName ?ac_NoOrder ?ac_NoPlay ?ac_NoRoad ?ac_NoRow ?ac_NoTable ?ac_NoPaper ?xc_HideError ?xc_NoPlay ?i_k_NoWeb ?i_k_NoPlan ?i_k_NoText ?i_k_NoKind ?i_k_TooGreat ?i_k_NoTree ?i_k_NoWeights ?i_k_NoTurns ?i_k_NoNumber ?i_k_NoBoxes ?i_k_NoBudget ?i_k_NoName ?i_k_NoOrder ?i_k_NoPlay ?i_k_NoRoad ?i_k_NoRow ?i_k_NoTable ?i_k_NoPaper ?i_k_ValueError ?i_sub ?e_ga ?e_gn ?e_cl ?e_mb ?e_mo)
    (case a0 => k_is); (case l0 => k_is); (case c0 => k_is); (case k0 => k_is)
    (case a1 => k_is); (case l1 => k_is); (case c1 => k_is); (case k1 => k_is)
    (case a2 => k_is); (case l2 => k_is); (case c2 => k_is); (case k2 => k_is)
    (case a3 => k_is); (case l3 => k_is); (case c3 => k_is); (case k3 => k_is)
    (case a4 => k_is); (case l4 => k_is); (case c4 => k_is); (case k4 => k_is)
    (case a5 => k_is); (case l5 => k_is); (case c5 => k_is); (case k5 => k_is)
    (case a6 => k_is); (case l6 => k_is); (case c6 => k_is); (case k6 => k_is)
    (case a7 => k_is); (case l7 => k_is); (case c7 => k_is); (case k7 => k_is)
    (case a8 => k_is); (case l8 => k_is); (case c8 => k_is); (case k8 => k_is)
    (case a9 => k_is); (case l9 => k_is); (case c9 => k_is); (case k9 => k_is)
    (case z_sum => k_is)
    (case z_list => k_is)
    (case z_range => k_is)
    (case z_len => k_is)
    (case z_isinstance => k_is)
    (case z_int => k_is)
    (case z_bool => k_is)
    (case z_ValueError => k_is)
    (case ac_HideError => k_is)
    (case ac_NoWeb => k_is)
    (case ac_NoPlan => k_is)
    (case ac_NoText => k_is)
    (case ac_NoKind => k_is)
    (case ac_TooGreat => k_is)
    (case ac_NoTree => k_is)
    (case ac_NoWeights => k_is)
    (case ac_NoTurns => k_is)
    (case ac_NoNumber => k_is)
    (case ac_NoBoxes => k_is)
    (case ac_NoBudget => k_is)
    (case ac_NoName => k_is)
    (case ac_NoOrder => k_is)
    (case ac_NoPlay => k_is)
    (case ac_NoRoad => k_is)
    (case ac_NoRow => k_is)
    (case ac_NoTable => k_is)
    (case ac_NoPaper => k_is)
    (case xc_HideError => k_exc)
    (case xc_NoPlay => k_exc)
    (case i_k_NoWeb => kit_is)
    (case i_k_NoPlan => kit_is)
    (case i_k_NoText => kit_is)
    (case i_k_NoKind => kit_is)
    (case i_k_TooGreat => kit_is)
    (case i_k_NoTree => kit_is)
    (case i_k_NoWeights => kit_is)
    (case i_k_NoTurns => kit_is)
    (case i_k_NoNumber => kit_is)
    (case i_k_NoBoxes => kit_is)
    (case i_k_NoBudget => kit_is)
    (case i_k_NoName => kit_is)
    (case i_k_NoOrder => kit_is)
    (case i_k_NoPlay => kit_is)
    (case i_k_NoRoad => kit_is)
    (case i_k_NoRow => kit_is)
    (case i_k_NoTable => kit_is)
    (case i_k_NoPaper => kit_is)
    (case i_k_ValueError => kit_is)
    (case i_sub => k_is)
    (case e_ga => k_is)
    (case e_gn => k_is)
    (case e_cl => k_is)
    (case e_mb => k_is)
    (case e_mo => k_is)


