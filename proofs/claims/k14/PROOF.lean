import PyProof.Rows.All
import Wide.All
import OpenK.AllK
import Wide.FinOn
import Lean
import PyProof.EqAt
import PyProof.EqKinds
import PyProof.TupleCall
import KE.IntBitsLaws
import PyProof.NeKinds
import KE.KIsAll
import PyProof.ExcAttrAll.ValueError
import KE.RegKIsAll
import OpenK.KOwn
import PyProof.ConsumeWalk
import PyProof.SumWalkG
import PyProof.Rows.SeqCalls
import PyProof.Rows.SeqGen
import PyProof.ZipIter
import PyProof.Rows.ZipGen
import PyProof.Rows.FactsT2
import PyProof.WalkInts
import PyProof.SeqI3
import PyProof.AutoSeq1
import PyProof.WalksEnum
import PyProof.EnumMake
import OpenK.ZGo
import PySem.Challenge.RW_hideworth_k14_best_rows_and_columns
set_option Elab.async false
set_option linter.all false
set_option maxRecDepth 100000
namespace L2
open PySem PySem.Spec PyProof.Rows
abbrev Key := Sum Int Str
def keyIs : Key → Value → Bool
  | .inl k, v => Value.isInt k v
  | .inr x, v => Value.isStrOf x v
def keyH (w : World) : Key → Int
  | .inl k => hashInt k
  | .inr x => hashStr w x
theorem keyIs_shape : ∀ {k : Key} {v : Value}, keyIs k v = true → (∃ i t, k = Sum.inl i ∧ v = Value.int i t) ∨ (∃ x t, k = Sum.inr x ∧ v = Value.str x t)
  | .inl i, v, h => by
    obtain ⟨t, e⟩ := Value.isInt_shape (k := i) (v := v) h
    exact .inl ⟨i, t, rfl, e⟩
  | .inr x, v, h => by
    obtain ⟨t, e⟩ := Value.isStrOf_shape (x := x) (v := v) h
    exact .inr ⟨x, t, rfl, e⟩
theorem key_ll (a b : Int) : decide ((Sum.inl a : Key) = Sum.inl b) = (a == b) := by
  by_cases e : a = b
  · subst e; simp
  · have h : ¬ (Sum.inl a : Key) = Sum.inl b := fun q => e (Sum.inl.inj q)
    rw [decide_eq_false h]
    exact (beq_eq_false_iff_ne.mpr e).symm
theorem key_rr (a b : Str) : decide ((Sum.inr a : Key) = Sum.inr b) = decide (a = b) := by
  by_cases e : a = b
  · subst e; simp
  · have h : ¬ (Sum.inr a : Key) = Sum.inr b := fun q => e (Sum.inr.inj q)
    rw [decide_eq_false h, decide_eq_false e]
theorem key_lr (a : Int) (b : Str) : decide ((Sum.inl a : Key) = Sum.inr b) = false := decide_eq_false (fun q => nomatch q)
theorem key_rl (a : Str) (b : Int) : decide ((Sum.inr a : Key) = Sum.inl b) = false := decide_eq_false (fun q => nomatch q)
def mixKind (prog : Program) (w : World) : PySem.KeyKind prog w Key where
  is := keyIs
  hash := keyH w
  inj := fun v a b ha hb => by
    rcases keyIs_shape ha with ⟨i, t, rfl, rfl⟩ | ⟨x, t, rfl, rfl⟩
    · rcases keyIs_shape hb with ⟨j, u, rfl, e⟩ | ⟨y, u, rfl, e⟩
      · injection e with e1 _; rw [e1]
      · exact nomatch e
    · rcases keyIs_shape hb with ⟨j, u, rfl, e⟩ | ⟨y, u, rfl, e⟩
      · exact nomatch e
      · injection e with e1 _; rw [e1]
  byValue := fun k v h => by
    rcases keyIs_shape h with ⟨i, t, rfl, rfl⟩ | ⟨x, t, rfl, rfl⟩ <;> rfl
  pyHash := fun hv h => by
    rcases keyIs_shape hv with ⟨i, t, rfl, rfl⟩ | ⟨x, t, rfl, rfl⟩
    · exact wpAny_pyHash_int h
    · exact wpAny_pyHash_str h
  eqBool := fun hu hv h => by
    rcases keyIs_shape hu with ⟨i, t, rfl, rfl⟩ | ⟨x, t, rfl, rfl⟩
    · rcases keyIs_shape hv with ⟨j, u, rfl, rfl⟩ | ⟨y, u, rfl, rfl⟩
      · rw [key_ll] at h; exact wpAny_eqBool_int h
      · rw [key_lr] at h; exact SeqAt.EqAt.int_str i t y u _ _ _ _ h
    · rcases keyIs_shape hv with ⟨j, u, rfl, rfl⟩ | ⟨y, u, rfl, rfl⟩
      · rw [key_rl] at h; exact SeqAt.EqAt.str_int x t j u _ _ _ _ h
      · rw [key_rr] at h; exact wpAny_eqBool_str h
  «strs» := fun k x t v h => by
    rcases keyIs_shape h with ⟨i, u, rfl, e⟩ | ⟨y, u, rfl, e⟩
    · exact nomatch e
    · injection e with e1 _
      subst e1
      cases v <;> rfl
end L2
namespace L2
open PySem PySem.Spec PyProof.Rows
inductive V where
  | non | bl (b : Bool) | int (i : Int) | str (x : Str) | byt (b : Array UInt8) | flt (b : UInt64) | ref (a : Addr) | ty (n : String)
  deriving DecidableEq
def RelV : V → Value → Prop
  | .non, u => u = Value.none
  | .bl b, u => u = Value.bool b
  | .int i, u => ∃ t, u = Value.int i t
  | .str x, u => ∃ t, u = Value.str x t
  | .byt b, u => ∃ t, u = Value.bytes b t
  | .flt b, u => ∃ t, u = Value.float b t
  | .ref a, u => u = Value.ref a
  | .ty n, u => u = Value.type n
abbrev Vals : List V → List Value → Prop := Paired RelV
theorem Vals.length {xs : List V} {us : List Value} (r : Vals xs us) : xs.length = us.length := Paired.length r
theorem Vals.get : ∀ {xs : List V} {us : List Value} {i : Nat} {x : V}, Vals xs us → xs[i]? = some x → ∃ u, us[i]? = some u ∧ RelV x u
  | _, _, _, _, .nil, e => by simp at e
  | _, _, 0, _, .cons r _, e => by simp at e; subst e; exact ⟨_, rfl, r⟩
  | _, _, i + 1, x, .cons _ t, e => by
    obtain ⟨u, h1, h2⟩ := Vals.get (i := i) (x := x) t (by simpa using e)
    exact ⟨u, by simpa using h1, h2⟩
theorem Vals.set {x : V} {u : Value} (r : RelV x u) : ∀ {xs : List V} {us : List Value} (i : Nat), Vals xs us → Vals (xs.set i x) (us.set i u)
  | _, _, _, .nil => .nil
  | _, _, 0, .cons _ t => .cons r t
  | _, _, i + 1, .cons q t => .cons q (Vals.set r i t)
theorem Vals.append : ∀ {xs ys : List V} {us ws : List Value}, Vals xs us → Vals ys ws → Vals (xs ++ ys) (us ++ ws)
  | _, _, _, _, .nil, s => s
  | _, _, _, _, .cons r t, s => .cons r (Vals.append t s)
theorem Vals.take : ∀ {xs : List V} {us : List Value} (n : Nat), Vals xs us → Vals (xs.take n) (us.take n)
  | _, _, 0, _ => .nil
  | _, _, _ + 1, .nil => .nil
  | _, _, n + 1, .cons r t => .cons r (Vals.take n t)
theorem Vals.drop : ∀ {xs : List V} {us : List Value} (n : Nat), Vals xs us → Vals (xs.drop n) (us.drop n)
  | _, _, 0, r => r
  | _, _, _ + 1, .nil => .nil
  | _, _, n + 1, .cons _ t => Vals.drop n t
def RelO : Option V → Option Value → Prop
  | some v, some u => RelV v u
  | none, none => True
  | _, _ => False
def KV {κ : Type} : List (κ × V) → List (κ × Value) → Prop := Paired fun (p : κ × V) (q : κ × Value) => p.1 = q.1 ∧ RelV p.2 q.2
def kV : Key → V
  | .inl i => .int i
  | .inr x => .str x
inductive HO where
    | lst (xs : List V)
    | tup (xs : List V)
    | dK (kvs : List (Key × V)) | dT (kvs : List (List Key × V))
    | set (S : Int → Bool) (n : Nat)
    | ins (C dx : Addr) (fs : List (Str × V))
    | own (x : Addr)
    | xd (fs : List (Str × V))
    | met (f x : Addr)
    | rng (lo hi : Int)
    | frz (o : Obj) (u : HO)
    | tbl (ps : Array Value)
    | ext (φ : Heap → Prop)
abbrev Hp := Addr → Option HO
def upd (H : Hp) (a : Addr) (o : HO) : Hp := fun b => if b = a then some o else H b
theorem upd_same {H : Hp} {a : Addr} {o : HO} : upd H a o a = some o := by unfold upd; rw [if_pos rfl]
theorem upd_ne {H : Hp} {a b : Addr} {o : HO} (h : b ≠ a) : upd H a o b = H b := by unfold upd; rw [if_neg h]
theorem ne_of_none {H : Hp} {a b : Addr} {o : HO} (h : H a = some o) (h' : H b = none) : a ≠ b := by
  intro e; subst e; rw [h] at h'; cases h'
section
variable (P : Program) (w : World)
def ObjOk (H : Hp) (h : Heap) (a : Addr) : HO → Prop
  | .lst xs => xs.length ≤ sizeLine ∧ ∃ (its : List Value) (n : Nat), Vals xs its ∧ h.get? a = some { cls := .type "list", data := .seq its.toArray n }
  | .tup xs => xs.length ≤ sizeLine ∧ ∃ its : List Value, Vals xs its ∧ IsTup h a its.toArray
  | .dK kvs => kvs.length ≤ sizeLine ∧ (a == sysModules) = false ∧ ∃ vs, KV kvs vs ∧ h.DictOf (mixKind P w) a vs
  | .dT kvs => kvs.length ≤ sizeLine ∧ (a == sysModules) = false ∧ ∃ xs : List (List Key × Addr × Value),
      Paired (fun (p : List Key × V) (q : List Key × Addr × Value) => p.1 = q.1 ∧ H q.2.1 = some (.tup (p.1.map kV)) ∧ RelV p.2 q.2.2) kvs xs ∧
      ∃ o es ep, h.get? a = some o ∧ o.ExactDict ∧ o.data = .dict es ep ∧ es.toList = xs.map (entryOfKey (tupleKind (mixKind P w))) ∧ (xs.map (·.1)).Nodup
  | .set S n => h.SetOf (intKind P w) a S n
  | .ins C dx fs => H dx = some (.own a) ∧ fs.length ≤ 1000 ∧ dx ≠ a ∧ h.get? a = some (PySem.W.instObj C dx) ∧
      ∃ mA, h.Ns1 dx mA ∧ (∀ f, RelO (fs.lookup f) (mA f)) ∧ PySem.Within mA (fs.map (·.1))
  | .own _ => ∃ o, h.get? a = some o
  | .xd fs => ∃ mA, h.Ns1 a mA ∧ ∀ f, RelO (fs.lookup f) (mA f)
  | .rng lo hi => ∃ t u v, h.get? a = some { cls := .type "range", data := .fields #[.int lo t, .int hi u, .int 1 v] }
  | .frz o u => h.get? a = some o ∧ ObjOk H h a u
  | .tbl ps => h.get? a = some { cls := .none, data := .fields ps }
  | .met f x => h.get? a = some (PySem.W.methodObj (.ref f) (.ref x))
  | .ext φ => φ h ∧ (∃ o, h.get? a = some o) ∧ ∀ h1 h2 : Heap, φ h1 → (∀ o, h1.get? a = some o → h2.get? a = some o) → φ h2
def HOk (H : Hp) (h : Heap) : Prop := ∀ a o, H a = some o → ObjOk P w H h a o
end
section
variable {P : Program} {w : World} {H H' : Hp} {h h' : Heap} {a : Addr} {o : HO}
theorem ObjOk.lt (x : ObjOk P w H h a o) : a < h.objs.size := by
  cases o with
  | lst xs => obtain ⟨_, _, _, _, e⟩ := x; exact Heap.lt_size e
  | tup xs => obtain ⟨_, _, _, p⟩ := x; exact p.lt
  | dK kvs => obtain ⟨_, _, _, _, o, _, _, e, _⟩ := x; exact Heap.lt_size e
  | dT kvs => obtain ⟨_, _, _, _, o, _, _, e, _⟩ := x; exact Heap.lt_size e
  | set S n => obtain ⟨o, _, _, _, e, _⟩ := x; exact Heap.lt_size e
  | ins C dx fs => obtain ⟨_, _, _, e, _⟩ := x; exact Heap.lt_size e
  | own y => obtain ⟨_, e⟩ := x; exact Heap.lt_size e
  | xd fs => obtain ⟨_, ⟨_, _, _, e, _⟩, _⟩ := x; exact Heap.lt_size e
  | rng lo hi => obtain ⟨_, _, _, e⟩ := x; exact Heap.lt_size e
  | frz ob u => obtain ⟨e, _⟩ := x; exact Heap.lt_size e
  | tbl ps => exact Heap.lt_size (show h.get? a = some _ from x)
  | met f y => exact Heap.lt_size (show h.get? a = some _ from x)
  | ext φ => obtain ⟨_, ⟨_, e⟩, _⟩ := x; exact Heap.lt_size e
theorem Paired.mapP {α β : Type} {F G : α → β → Prop} : ∀ {l₁ : List α} {l₂ : List β}, Paired F l₁ l₂ → (∀ a b, F a b → G a b) → Paired G l₁ l₂
  | _, _, .nil, _ => .nil
  | _, _, .cons r t, f => .cons (f _ _ r) (Paired.mapP t f)
theorem ObjOk.stay (x : ObjOk P w H h a o) (k : ∀ b u, (b = a ∨ H b = some (.own a)) → h.get? b = some u → h'.get? b = some u)
    (ho : ∀ b, H b = some (.own a) → H' b = some (.own a)) (ht : ∀ b xs, H b = some (.tup xs) → H' b = some (.tup xs)) : ObjOk P w H' h' a o := by
  induction o with
  | lst xs => obtain ⟨z, its, n, r, e⟩ := x; exact ⟨z, its, n, r, k _ _ (.inl rfl) e⟩
  | tup xs => obtain ⟨z, its, r, ob, e, c⟩ := x; exact ⟨z, its, r, ob, k _ _ (.inl rfl) e, c⟩
  | dK kvs => obtain ⟨z, y, vs, r, ob, es, ep, e, c⟩ := x; exact ⟨z, y, vs, r, ob, es, ep, k _ _ (.inl rfl) e, c⟩
  | dT kvs =>
    obtain ⟨z, y, xs, r, ob, es, ep, e, c⟩ := x
    exact ⟨z, y, xs, Paired.mapP r fun p q z => ⟨z.1, ht _ _ z.2.1, z.2.2⟩, ob, es, ep, k _ _ (.inl rfl) e, c⟩
  | set S n => obtain ⟨ob, es, ep, t, e, c⟩ := x; exact ⟨ob, es, ep, t, k _ _ (.inl rfl) e, c⟩
  | ins C dx fs =>
    obtain ⟨d, z, ne, e, mA, ⟨od, es, ep, e2, c⟩, r⟩ := x
    exact ⟨ho _ d, z, ne, k _ _ (.inl rfl) e, mA, ⟨od, es, ep, k _ _ (.inr d) e2, c⟩, r⟩
  | own y => obtain ⟨ob, e⟩ := x; exact ⟨ob, k _ _ (.inl rfl) e⟩
  | xd fs => obtain ⟨mA, ⟨od, es, ep, e, c⟩, r⟩ := x; exact ⟨mA, ⟨od, es, ep, k _ _ (.inl rfl) e, c⟩, r⟩
  | rng lo hi => obtain ⟨t, u, v, e⟩ := x; exact ⟨t, u, v, k _ _ (.inl rfl) e⟩
  | frz ob u ih => obtain ⟨e, q⟩ := x; exact ⟨k _ _ (.inl rfl) e, ih q⟩
  | tbl ps =>
    have e : h.get? a = some { cls := .none, data := .fields ps } := x
    show h'.get? a = some { cls := .none, data := .fields ps }
    exact k a _ (.inl rfl) e
  | met f y =>
    have e : h.get? a = some (PySem.W.methodObj (.ref f) (.ref y)) := x
    show h'.get? a = some (PySem.W.methodObj (.ref f) (.ref y))
    exact k a _ (.inl rfl) e
  | ext φ => obtain ⟨p, ⟨o, e⟩, st⟩ := x; exact ⟨st _ _ p fun o q => k _ _ (.inl rfl) q, ⟨o, k _ _ (.inl rfl) e⟩, st⟩
theorem HOk.lt (x : HOk P w H h) (e : H a = some o) : a < h.objs.size := (x a o e).lt
theorem HOk.fresh (x : HOk P w H h) (e : h.objs.size ≤ a) : H a = none := by
  cases q : H a with
  | none => rfl
  | some u => exact absurd (Nat.lt_of_lt_of_le (x.lt q) e) (Nat.lt_irrefl _)
theorem HOk.kept (x : HOk P w H h) (k : ∀ b u, h.get? b = some u → h'.get? b = some u) : HOk P w H h' := fun a o e =>
  (x a o e).stay (fun b u _ q => k b u q) (fun _ q => q) fun _ _ q => q
theorem HOk.laid (x : HOk P w H h) (k : ∀ b u, h.get? b = some u → h'.get? b = some u) (hp : h.objs.size ≤ a) (new : ObjOk P w (upd H a o) h' a o) : HOk P w (upd H a o) h' := fun b u e => by
  have hn := x.fresh hp
  by_cases hb : b = a
  · subst hb; rw [upd_same] at e; cases e; exact new
  · rw [upd_ne hb] at e
    exact (x b u e).stay (fun c v _ q => k c v q) (fun c q => by rw [upd_ne (ne_of_none q hn)]; exact q) fun c xs q => by rw [upd_ne (ne_of_none q hn)]; exact q
end
def Rd (H : Hp) (a : Addr) (u : HO) : Prop := H a = some u ∨ ∃ o, H a = some (.frz o u)
theorem Rd.of {H : Hp} {a : Addr} {u : HO} (h : H a = some u) : Rd H a u := .inl h
theorem Rd.ok {P : Program} {w : World} {H : Hp} {h : Heap} {a : Addr} {u : HO} (r : Rd H a u) (x : HOk P w H h) : ObjOk P w H h a u := by
  rcases r with r | ⟨o, r⟩
  · exact x a u r
  · obtain ⟨_, q⟩ := x a _ r
    exact q
def Mut : Option HO → Prop
  | some (.lst _) => True
  | some (.dK _) => True
  | some (.dT _) => True
  | some (.set _ _) => True
  | some (.ins _ _ _) => True
  | some (.ext _) => True
  | _ => False
section
variable {P : Program} {w : World} {H : Hp} {h h' : Heap} {x e : Addr} {o' : HO}
theorem HOk.write (ok : HOk P w H h) (mu : Mut (H x)) (he : e = x ∨ H e = some (.own x)) (k : ∀ b u, b ≠ e → h.get? b = some u → h'.get? b = some u) (heo : ∃ u, h'.get? e = some u)
    (new : ObjOk P w (upd H x o') h' x o') : HOk P w (upd H x o') h' := fun b u q => by
  have nown : ∀ c y, H c = some (.own y) → c ≠ x := fun c y r z => by subst z; rw [r] at mu; exact mu
  have ntup : ∀ c xs, H c = some (.tup xs) → c ≠ x := fun c xs r z => by subst z; rw [r] at mu; exact mu
  by_cases hb : b = x
  · subst hb; rw [upd_same] at q; cases q; exact new
  · rw [upd_ne hb] at q
    by_cases hbe : b = e
    · have q' : H b = some (.own x) := by
        rcases he with z | z
        · exact absurd (hbe.trans z) hb
        · rw [hbe]; exact z
      rw [q] at q'; cases q'
      obtain ⟨v, hv⟩ := heo
      exact ⟨v, by rw [hbe]; exact hv⟩
    · refine (ok b u q).stay (fun c v hc r => k c v ?_ r) (fun c r => by rw [upd_ne (nown c b r)]; exact r) fun c xs r => by rw [upd_ne (ntup c xs r)]; exact r
      rcases hc with rfl | hc
      · exact hbe
      · rintro rfl
        rcases he with z | z
        · exact nown c b hc z
        · rw [hc] at z; cases z; exact hb rfl
end
structure Un (fs ex : List Addr) (H H' : Hp) (h h' : Heap) : Prop where
  keep : ∀ b o, h.get? b = some o → H b = none → b ∉ fs → b ∉ ex → h'.get? b = some o
  slot : ∀ b o, h.get? b = some o → H b = none → b ∈ fs → b ∉ ex → ∃ sl, h'.get? b = some { o with slots := sl }
  free : ∀ b o, h.get? b = some o → H b = none → b ∉ ex → H' b = none
  there : ∀ b o, h.get? b = some o → b ∉ ex → ∃ o', h'.get? b = some o'
  tups : ∀ b xs, H b = some (.tup xs) → H' b = some (.tup xs)
  frzs : ∀ b o u, H b = some (.frz o u) → H' b = some (.frz o u)
  tbls : ∀ b ps, H b = some (.tbl ps) → ∃ more, H' b = some (.tbl (ps ++ more))
section
variable {fs fs' ex ex' : List Addr} {H H1 H2 : Hp} {h h1 h2 h' : Heap} {a x e : Addr} {o : HO}
theorem Un.any (u : Un fs ex H H1 h h1) {b : Addr} {ob : Obj} (q : h.get? b = some ob) (n : H b = none) (hx : b ∉ ex) : ∃ sl, h1.get? b = some { ob with slots := sl } := by
  by_cases hb : b ∈ fs
  · exact u.slot b ob q n hb hx
  · exact ⟨ob.slots, u.keep b ob q n hb hx⟩
theorem Un.trans (a : Un fs ex H H1 h h1) (b : Un fs ex H1 H2 h1 h2) : Un fs ex H H2 h h2 where
  keep := fun c ob q n hc hx => b.keep c ob (a.keep c ob q n hc hx) (a.free c ob q n hx) hc hx
  slot := fun c ob q n hc hx => by
    obtain ⟨sl, e1⟩ := a.slot c ob q n hc hx
    obtain ⟨sl', e2⟩ := b.slot c _ e1 (a.free c ob q n hx) hc hx
    exact ⟨sl', e2⟩
  free := fun c ob q n hx => by
    obtain ⟨o', e1⟩ := a.there c ob q hx
    exact b.free c o' e1 (a.free c ob q n hx) hx
  there := fun c ob q hx => by
    obtain ⟨o', e1⟩ := a.there c ob q hx
    exact b.there c o' e1 hx
  tups := fun c xs q => b.tups c xs (a.tups c xs q)
  frzs := fun c ob xs q => b.frzs c ob xs (a.frzs c ob xs q)
  tbls := fun c ps q => by
    obtain ⟨m1, e1⟩ := a.tbls c ps q
    obtain ⟨m2, e2⟩ := b.tbls c _ e1
    exact ⟨m1 ++ m2, by rw [e2, Array.append_assoc]⟩
theorem Un.kept (k : ∀ b u, h.get? b = some u → h'.get? b = some u) : Un fs ex H H h h' :=
  ⟨fun b ob q _ _ _ => k b ob q, fun b ob q _ _ _ => ⟨ob.slots, k b ob q⟩, fun _ _ _ n _ => n, fun b ob q _ => ⟨ob, k b ob q⟩, fun _ _ q => q, fun _ _ _ q => q, fun _ ps q => ⟨#[], by rw [q]; simp⟩⟩
theorem Un.refl : Un fs ex H H h h := Un.kept fun _ _ q => q
theorem Un.laid (k : ∀ b u, h.get? b = some u → h'.get? b = some u) (hp : h.objs.size ≤ a) (hn : H a = none) : Un fs ex H (upd H a o) h h' where
  keep := fun b u q _ _ _ => k b u q
  slot := fun b u q _ _ _ => ⟨u.slots, k b u q⟩
  free := fun b u q n _ => by rw [upd_ne (Nat.ne_of_lt (Nat.lt_of_lt_of_le (Heap.lt_size q) hp))]; exact n
  there := fun b u q _ => ⟨u, k b u q⟩
  tups := fun b xs q => by rw [upd_ne (ne_of_none q hn)]; exact q
  frzs := fun b u xs q => by rw [upd_ne (ne_of_none q hn)]; exact q
  tbls := fun b ps q => ⟨#[], by rw [upd_ne (ne_of_none q hn), q]; simp⟩
theorem Un.write (mu : Mut (H x)) (he : e = x ∨ H e = some (.own x)) (k : ∀ b u, b ≠ e → h.get? b = some u → h'.get? b = some u) (heo : ∃ u, h'.get? e = some u) : Un fs ex H (upd H x o) h h' := by
  have hx : ∀ b, H b = none → b ≠ x := fun b n z => by subst z; rw [n] at mu; exact mu
  have hb : ∀ b, H b = none → b ≠ e := fun b n z => by
    subst z
    rcases he with r | r
    · exact hx b n r
    · rw [n] at r; cases r
  have hm : ∀ b u, H b = some u → ¬ Mut (some u) → b ≠ x := fun b u q nm z => by subst z; rw [q] at mu; exact nm mu
  refine ⟨fun b u q n _ _ => k b u (hb b n) q, fun b u q n _ _ => ⟨u.slots, k b u (hb b n) q⟩, fun b u q n _ => by rw [upd_ne (hx b n)]; exact n, fun b u q _ => ?_,
    fun b xs q => by rw [upd_ne (hm b _ q fun z => z)]; exact q, fun b u xs q => by rw [upd_ne (hm b _ q fun z => z)]; exact q, fun b ps q => ⟨#[], by rw [upd_ne (hm b _ q fun z => z), q]; simp⟩⟩
  by_cases hbe : b = e
  · subst hbe; exact heo
  · exact ⟨u, k b u hbe q⟩
theorem Un.mono (u : Un fs ex H H1 h h1) (hs : ∀ b ∈ fs, b ∈ fs') (hx : ∀ b ∈ ex, b ∈ ex') : Un fs' ex' H H1 h h1 :=
  ⟨fun b ob q n hb he => u.keep b ob q n (fun z => hb (hs b z)) fun z => he (hx b z), fun _ _ q n _ he => u.any q n fun z => he (hx _ z), fun b ob q n he => u.free b ob q n fun z => he (hx b z), fun b ob q he => u.there b ob q fun z => he (hx b z), u.tups, u.frzs, u.tbls⟩
end
def trk (h : Heap) (H : Hp) : List Addr := (List.range h.objs.size).filter fun a => (H a).isSome
def hidT (h : Heap) (H : Hp) : Heap := PySem.W.hideAll h (trk h H)
theorem hidT_size (h : Heap) (H : Hp) : (hidT h H).objs.size = h.objs.size := PySem.W.hideAll_size _ _
theorem hidT_get {h : Heap} {H : Hp} {b : Addr} {o : Obj} (e : h.get? b = some o) (n : H b = none) : (hidT h H).get? b = some o :=
  PySem.W.hideAll_get _ e fun hm => by
    have q : (H b).isSome = true := (List.mem_filter.mp hm).2
    rw [n] at q; simp at q
theorem of_hidT {h : Heap} {H : Hp} {b : Addr} {o : Obj} (e : (hidT h H).get? b = some o) : h.get? b = some o ∧ H b = none := by
  have e' : h.get? b = some o := PySem.W.of_hideAll (trk h H) e
  refine ⟨e', ?_⟩
  cases q : H b with
  | none => rfl
  | some x =>
    have hm : b ∈ trk h H := List.mem_filter.mpr ⟨List.mem_range.mpr (Heap.lt_size e'), by simp [q]⟩
    have z : (hidT h H).get? b = none := PySem.W.hideAll_none (trk h H) hm
    rw [z] at e; cases e
def allNews (g h : Heap) (L : Addr) : List (Addr × Obj) := (List.range h.objs.size).filterMap fun a => if a = L ∨ (g.get? a).isSome = true then none else (h.get? a).map fun o => (a, o)
def rest (g h : Heap) (L d : Addr) : List (Addr × Obj) := (allNews g h L).filter fun p => decide (p.1 ≠ d)
end L2
namespace L2
open PySem PySem.Spec PyProof.Rows
structure Mod (K : PySem.W.Frag) (mg : Str → Option Value) (base : Heap) : Prop where
  kin : K.In base
  glob : base.Ns mainGlobals mg
  blt : ∃ mb, base.Ns builtinsNs mb ∧ ∀ x : Str, x ≠ "__name__" → mb x = bootBuiltins x
  nolimit : base.NoLimit
structure Cx where
  prog : Program
  w : World
  K : PySem.W.Frag
  mg : Str → Option Value
  base : Heap
  A : Around
  N : List Str
  s₀ : Shared
  H₀ : Hp
  env : Env
  outer : List Env
  stack : List Env
  ex : List Addr
  fn : Str → Bool
  calm : Bool
  pn : List (Addr × Obj)
  xe : Value → Shared → Prop
def frs (l : List Env) : List Addr := l.filterMap (·.frame)
abbrev Cx.fs (X : Cx) : List Addr := frs X.outer
def Vis (sc : Scope) (x : Str) : Prop := sc.names.lookup x = some .local ∨ sc.names.lookup x = some .cell ∨ sc.names.lookup x = some .free
def Loc (sc : Scope) (x : Str) : Prop := sc.names.lookup x = some .local ∨ sc.names.lookup x = some .cell
def Look (env : Env) (h : Heap) (m : Str → Option Value) (x : Str) (u : Value) : Prop :=
  (env.kindOf x = some .local ∧ m x = some u) ∨ ((env.kindOf x = some .cell ∨ env.kindOf x = some .free) ∧ ∃ c, env.cells.lookup x = some c ∧ h.IsCell c (some u))
structure Cx.Ok (X : Cx) : Prop where
  mod : Mod X.K X.mg X.base
  kind : X.env.scope.kind = .function
  glob : X.env.globals = mainGlobals
  blt : X.env.builtins = builtinsNs
  above : X.s₀.heap.objs.size ≤ X.env.locals
  inj : ∀ x y c, X.env.cells.lookup x = some c → X.env.cells.lookup y = some c → x = y
  has : ∀ x, (X.env.kindOf x = some .cell ∨ X.env.kindOf x = some .free) → ∃ c, X.env.cells.lookup x = some c
  cab : ∀ x c, X.fn x = true → X.env.cells.lookup x = some c → X.s₀.heap.objs.size ≤ c
  hd : X.calm = true → X.A.handled = none
  frames : X.A.frames = some X.stack
  stk : X.stack = X.outer ∨ (X.stack = X.env :: X.outer ∧ X.env.frame = some X.env.locals)
  exf : ∀ b ∈ X.ex, b ≠ X.env.locals ∧ ∀ x c, X.env.cells.lookup x = some c → c ≠ b
  bs : ∀ b o, X.base.get? b = some o → X.s₀.heap.get? b = some o ∧ X.H₀ b = none
  bsz : X.base.objs.size ≤ X.s₀.heap.objs.size
  noex : ∀ b o, X.base.get? b = some o → b ∉ X.ex
  exfs : ∀ b ∈ X.ex, b ∉ X.fs
  funs : X.s₀.heap.FunFrames X.base X.outer
  frf : ∀ b ∈ X.fs, X.H₀ b = none
structure Inv (X : Cx) (pins : List (Addr × Obj)) (σ : List (Option V)) (H : Hp) (s : Shared) : Prop where
  ok : X.Ok
  os : s.os = X.s₀.os
  bare : AllBare s.gens
  base : Un X.fs X.ex X.H₀ H X.s₀.heap s.heap
  loc : ∃ m, s.heap.Ns X.env.locals m ∧ ∀ (i : Nat) (x : Str) (v : V), X.N[i]? = some x → σ[i]? = some (some v) → Vis X.env.scope x → ∃ u, RelV v u ∧ Look X.env s.heap m x u
  cell : ∀ x c, X.env.cells.lookup x = some c → ∃ v, s.heap.IsCell c v
  free : H X.env.locals = none
  freeC : ∀ x c, X.env.cells.lookup x = some c → H c = none
  pin : ∀ p ∈ X.pn ++ pins, s.heap.get? p.1 = some p.2 ∧ H p.1 = none ∧ p.1 ≠ X.env.locals ∧ p.1 ∉ X.fs ∧ ∀ v, p.2.data ≠ .cell v
  hok : HOk X.prog X.w H s.heap
  len : σ.length = X.N.length
section
variable {X : Cx} {pins : List (Addr × Obj)} {σ : List (Option V)} {H H' : Hp} {s : Shared} {h' : Heap}
theorem Cx.Ok.nofr (ok : X.Ok) {b : Addr} {o : Obj} (e : X.base.get? b = some o) : b ∉ X.fs := fun hb => by
  have := (ok.funs.mem hb).1
  rw [e] at this; cases this
theorem Inv.bs (I : Inv X pins σ H s) : ∀ b o, X.base.get? b = some o → s.heap.get? b = some o ∧ H b = none := fun b o e =>
  ⟨I.base.keep b o (I.ok.bs b o e).1 (I.ok.bs b o e).2 (I.ok.nofr e) (I.ok.noex b o e), I.base.free b o (I.ok.bs b o e).1 (I.ok.bs b o e).2 (I.ok.noex b o e)⟩
theorem Inv.bk (I : Inv X pins σ H s) : ∀ b o, X.base.get? b = some o → s.heap.get? b = some o := fun b o e => (I.bs b o e).1
theorem Inv.mod (I : Inv X pins σ H s) : Mod X.K X.mg X.base := I.ok.mod
theorem Inv.kIn (I : Inv X pins σ H s) : X.K.In s.heap := I.ok.mod.kin.keeps I.bk
theorem Inv.fr (I : Inv X pins σ H s) : ∃ m, Fr X.base X.env.locals s.heap m :=
  let ⟨m, hn, _⟩ := I.loc
  ⟨m, hn, I.bk, Nat.le_trans I.ok.bsz I.ok.above⟩
theorem Inv.lt (I : Inv X pins σ H s) : X.env.locals < s.heap.objs.size := let ⟨_, hn, _⟩ := I.loc; hn.lt
theorem Inv.sz (I : Inv X pins σ H s) : X.s₀.heap.objs.size ≤ s.heap.objs.size := Nat.le_trans I.ok.above (Nat.le_of_lt I.lt)
theorem Inv.nofs (I : Inv X pins σ H s) {a : Addr} (h : s.heap.objs.size ≤ a) : a ∉ X.fs := fun hb => by
  obtain ⟨_, o, ho, _⟩ := I.ok.funs.mem hb
  exact absurd (Nat.lt_of_lt_of_le (Heap.lt_size ho) (Nat.le_trans I.sz h)) (Nat.lt_irrefl _)
theorem Inv.cne (I : Inv X pins σ H s) : ∀ x c, X.env.cells.lookup x = some c → c ≠ X.env.locals := fun x c e z => by
  obtain ⟨v, o, ho, hd⟩ := I.cell x c e
  obtain ⟨m, ⟨o', es, ep, ho', hd', _⟩, _⟩ := I.loc
  rw [z, ho'] at ho; cases ho; rw [hd'] at hd; cases hd
theorem Inv.funs (I : Inv X pins σ H s) : s.heap.FunFrames X.base X.outer := by
  have all : ∀ (l : List Env), (∀ b ∈ frs l, b ∈ X.fs) → X.s₀.heap.FunFrames X.base l → s.heap.FunFrames X.base l := by
    intro l
    induction l with
    | nil => intro _ _; trivial
    | cons env r ih =>
      intro hs hl
      obtain ⟨hk, ⟨L, o, hf, hn, ho, hd⟩, hr⟩ := hl
      have hL : L ∈ X.fs := hs L (by unfold frs; rw [List.filterMap_cons, hf]; exact List.mem_cons_self)
      obtain ⟨sl, e⟩ := I.base.slot L o ho (I.ok.frf L hL) hL fun z => I.ok.exfs L z hL
      exact ⟨hk, ⟨L, _, hf, hn, e, hd⟩, ih (fun b hb => hs b (by unfold frs; rw [List.filterMap_cons, hf]; exact List.mem_cons_of_mem _ hb)) hr⟩
  exact all X.outer (fun _ hb => hb) I.ok.funs
theorem Inv.stack (I : Inv X pins σ H s) : s.heap.FunFrames X.base X.stack := by
  rcases I.ok.stk with e | ⟨e, hf⟩
  · rw [e]; exact I.funs
  · rw [e]
    obtain ⟨m, hn, _⟩ := I.loc
    refine .cons (by rw [I.ok.kind]; decide) hf hn ?_ I.funs
    exact Heap.get?_none_of_le (Nat.le_trans I.ok.bsz I.ok.above)
theorem Inv.stkSub (I : Inv X pins σ H s) : ∀ b ∈ frs X.stack, b ∈ X.env.locals :: X.fs := fun b hb => by
  rcases I.ok.stk with e | ⟨e, hf⟩
  · rw [e] at hb; exact List.mem_cons_of_mem _ hb
  · rw [e] at hb
    unfold frs at hb
    rw [List.filterMap_cons, hf] at hb
    exact hb
theorem Inv.stkFree (I : Inv X pins σ H s) : ∀ b ∈ frs X.stack, H b = none := fun b hb => by
  rcases List.mem_cons.mp (I.stkSub b hb) with e | hb
  · rw [e]; exact I.free
  · obtain ⟨_, o, ho, _⟩ := I.ok.funs.mem hb
    exact I.base.free b o ho (I.ok.frf b hb) fun z => I.ok.exfs b z hb
theorem Inv.step {g' : Array GenState} {t' : Nat} {d' : Drawn} {ch : List Addr} (I : Inv X pins σ H s)
    (hch : ∀ b ∈ ch, (b ∈ X.ex ∨ X.s₀.heap.objs.size ≤ b) ∧ b ≠ X.env.locals ∧ (∀ x c, X.env.cells.lookup x = some c → c ≠ b) ∧ ∀ p ∈ X.pn ++ pins, p.1 ≠ b)
    (keep : ∀ b o, b ≠ X.env.locals → b ∉ X.fs → b ∉ ch → s.heap.get? b = some o → H b = none → h'.get? b = some o)
    (slot : ∀ b o, b ≠ X.env.locals → b ∈ X.fs → b ∉ ch → s.heap.get? b = some o → H b = none → ∃ sl, h'.get? b = some { o with slots := sl }) (free : ∀ b o, b ∉ ch → s.heap.get? b = some o → H b = none → H' b = none)
    (there : ∀ b o, b ∉ ch → s.heap.get? b = some o → ∃ o', h'.get? b = some o')
    (tups : ∀ b xs, H b = some (.tup xs) → H' b = some (.tup xs)) (frzs : ∀ b o u, H b = some (.frz o u) → H' b = some (.frz o u)) (tbls : ∀ b ps, H b = some (.tbl ps) → ∃ more, H' b = some (.tbl (ps ++ more)))
    (ns : ∀ m, s.heap.Ns X.env.locals m → h'.Ns X.env.locals m) (hok : HOk X.prog X.w H' h') (hg : AllBare g') :
    Inv X pins σ H' { s with heap := h', gens := g', drawn := d', toks := t' } := by
  have neL : ∀ b o, X.s₀.heap.get? b = some o → b ≠ X.env.locals := fun b o e => Nat.ne_of_lt (Nat.lt_of_lt_of_le (Heap.lt_size e) I.ok.above)
  have neC : ∀ b o, X.s₀.heap.get? b = some o → b ∉ X.ex → b ∉ ch := fun b o e hx hb => by
    rcases (hch b hb).1 with z | z
    · exact hx z
    · exact absurd (Nat.lt_of_lt_of_le (Heap.lt_size e) z) (Nat.lt_irrefl _)
  have cellK : ∀ x c, X.env.cells.lookup x = some c → ∀ v, s.heap.IsCell c v → h'.IsCell c v := fun x c e v ⟨o, ho, hd⟩ => by
    have nch : c ∉ ch := fun z => (hch c z).2.2.1 x c e rfl
    by_cases hc : c ∈ X.fs
    · obtain ⟨sl, q⟩ := slot c o (I.cne x c e) hc nch ho (I.freeC x c e)
      exact ⟨_, q, hd⟩
    · exact ⟨o, keep c o (I.cne x c e) hc nch ho (I.freeC x c e), hd⟩
  refine ⟨I.ok, I.os, hg, ⟨fun b o e n hb hx => ?_, fun b o e n hb hx => ?_, fun b o e n hx => ?_, fun b o e hx => ?_, fun b xs e => tups b xs (I.base.tups b xs e), fun b o xs e => frzs b o xs (I.base.frzs b o xs e), fun b ps e => ?_⟩, ?_, fun x c e => ?_, ?_, fun x c e => ?_, fun p hp => ?_, hok, I.len⟩
  · exact keep b o (neL b o e) hb (neC b o e hx) (I.base.keep b o e n hb hx) (I.base.free b o e n hx)
  · obtain ⟨sl, e1⟩ := I.base.slot b o e n hb hx
    obtain ⟨sl', e2⟩ := slot b _ (neL b o e) hb (neC b o e hx) e1 (I.base.free b o e n hx)
    exact ⟨sl', e2⟩
  · obtain ⟨o', e1⟩ := I.base.there b o e hx
    exact free b o' (neC b o e hx) e1 (I.base.free b o e n hx)
  · obtain ⟨o', e1⟩ := I.base.there b o e hx
    exact there b o' (neC b o e hx) e1
  · obtain ⟨m1, e1⟩ := I.base.tbls b ps e
    obtain ⟨m2, e2⟩ := tbls b _ e1
    exact ⟨m1 ++ m2, by rw [e2, Array.append_assoc]⟩
  · obtain ⟨m, hn, hl⟩ := I.loc
    refine ⟨m, ns m hn, fun i x v e1 e2 e3 => ?_⟩
    obtain ⟨u, r, l⟩ := hl i x v e1 e2 e3
    refine ⟨u, r, ?_⟩
    rcases l with l | ⟨k, c, e, z⟩
    · exact .inl l
    · exact .inr ⟨k, c, e, cellK x c e _ z⟩
  · obtain ⟨v, z⟩ := I.cell x c e
    exact ⟨v, cellK x c e v z⟩
  · obtain ⟨m, ⟨o, _, _, ho, _⟩, _⟩ := I.loc
    exact free _ o (fun z => (hch _ z).2.1 rfl) ho I.free
  · obtain ⟨v, o, ho, hd⟩ := I.cell x c e
    exact free c o (fun z => (hch c z).2.2.1 x c e rfl) ho (I.freeC x c e)
  · obtain ⟨e, n, ne, nf, d⟩ := I.pin p hp
    have nch : p.1 ∉ ch := fun z => (hch p.1 z).2.2.2 p hp rfl
    exact ⟨keep p.1 p.2 ne nf nch e n, free p.1 p.2 nch e n, ne, nf, d⟩
theorem Inv.un {t' : Nat} (I : Inv X pins σ H s) (u : Un X.fs [] H H' s.heap h') (hok : HOk X.prog X.w H' h') : Inv X pins σ H' { s with heap := h', toks := t' } := by
  obtain ⟨m, ⟨o, es, ep, ho, r⟩, _⟩ := id I.loc
  obtain ⟨sl, hL⟩ := u.any ho I.free (by simp)
  exact I.step (g' := s.gens) (d' := s.drawn) (ch := []) (fun _ z => nomatch z) (fun b o _ hb _ e n => u.keep b o e n hb (by simp)) (fun b o _ hb _ e n => u.slot b o e n hb (by simp)) (fun b o _ e n => u.free b o e n (by simp)) (fun b o _ e => u.there b o e (by simp)) u.tups u.frzs u.tbls (fun m' hm => by
    obtain ⟨o', es', ep', ho', r'⟩ := hm
    rw [ho] at ho'; cases ho'
    exact ⟨_, es', ep', hL, r'⟩) hok I.bare
theorem Inv.call {g' : Array GenState} {t' : Nat} {d' : Drawn} {ch : List Addr} (I : Inv X pins σ H s) (u : Un (frs X.stack) ch H H' s.heap h') (hok : HOk X.prog X.w H' h') (hg : AllBare g')
    (hch : ∀ b ∈ ch, (b ∈ X.ex ∨ X.s₀.heap.objs.size ≤ b) ∧ b ≠ X.env.locals ∧ (∀ x c, X.env.cells.lookup x = some c → c ≠ b) ∧ ∀ p ∈ X.pn ++ pins, p.1 ≠ b) :
    Inv X pins σ H' { s with heap := h', gens := g', drawn := d', toks := t' } := by
  obtain ⟨m, ⟨o, es, ep, ho, r⟩, _⟩ := id I.loc
  obtain ⟨sl, hL⟩ := u.any ho I.free fun z => (hch _ z).2.1 rfl
  exact I.step (ch := ch) hch (fun b o hL hb hc e n => u.keep b o e n (fun z => (List.mem_cons.mp (I.stkSub b z)).elim hL hb) hc) (fun b o _ _ hc e n => u.any e n hc) (fun b o hc e n => u.free b o e n hc) (fun b o hc e => u.there b o e hc) u.tups u.frzs u.tbls (fun m' hm => by
    obtain ⟨o', es', ep', ho', r'⟩ := hm
    rw [ho] at ho'; cases ho'
    exact ⟨_, es', ep', hL, r'⟩) hok hg
theorem Inv.turned {t' : Nat} {it : Addr} (I : Inv X pins σ H s) (k : ∀ b o, b ≠ it → s.heap.get? b = some o → h'.get? b = some o) (hn : H it = none) (hL : it ≠ X.env.locals)
    (h1 : it ∈ X.ex ∨ X.s₀.heap.objs.size ≤ it) (h2 : ∀ x c, X.env.cells.lookup x = some c → c ≠ it) (h3 : ∀ p ∈ X.pn ++ pins, p.1 ≠ it) : Inv X pins σ H { s with heap := h', toks := t' } := by
  have nit : ∀ b u, H b = some u → b ≠ it := fun b u e z => by rw [z, hn] at e; cases e
  refine I.step (g' := s.gens) (d' := s.drawn) (ch := [it]) (fun b hb => ?_) (fun b o _ _ hc e _ => k b o (fun z => hc (by simp [z])) e) (fun b o _ _ hc e _ => ⟨o.slots, k b o (fun z => hc (by simp [z])) e⟩) (fun _ _ _ _ n => n)
    (fun b o hc e => ⟨o, k b o (fun z => hc (by simp [z])) e⟩) (fun _ _ e => e) (fun _ _ _ e => e) (fun b ps e => ⟨#[], by rw [e]; simp⟩) (fun m hm => ?_) (fun b u e => ?_) I.bare
  · have e : b = it := by simpa using hb
    subst e
    exact ⟨h1, hL, h2, h3⟩
  · obtain ⟨o, es, ep, ho, r⟩ := hm
    exact ⟨o, es, ep, k _ o (Ne.symm hL) ho, r⟩
  · refine (I.hok b u e).stay (fun c v hc q => k c v ?_ q) (fun _ q => q) fun _ _ q => q
    rcases hc with z | z
    · rw [z]; exact nit b u e
    · exact nit c _ z
theorem Inv.tok (I : Inv X pins σ H s) (t : Nat) : Inv X pins σ H { s with toks := t } := I.un (h' := s.heap) (t' := t) Un.refl I.hok
theorem Inv.kept {t' : Nat} (I : Inv X pins σ H s) (k : ∀ b u, s.heap.get? b = some u → h'.get? b = some u) : Inv X pins σ H { s with heap := h', toks := t' } := I.un (Un.kept k) (I.hok.kept k)
theorem Inv.laid {a : Addr} {o : HO} {t' : Nat} (I : Inv X pins σ H s) (k : ∀ b u, s.heap.get? b = some u → h'.get? b = some u) (hp : s.heap.objs.size ≤ a) (new : ObjOk X.prog X.w (upd H a o) h' a o) :
    Inv X pins σ (upd H a o) { s with heap := h', toks := t' } := I.un (Un.laid k hp (I.hok.fresh hp)) (I.hok.laid k hp new)
theorem Inv.write {x e : Addr} {o : HO} {t' : Nat} (I : Inv X pins σ H s) (mu : Mut (H x)) (he : e = x ∨ H e = some (.own x)) (k : ∀ b u, b ≠ e → s.heap.get? b = some u → h'.get? b = some u) (heo : ∃ u, h'.get? e = some u)
    (new : ObjOk X.prog X.w (upd H x o) h' x o) : Inv X pins σ (upd H x o) { s with heap := h', toks := t' } := I.un (Un.write mu he k heo) (I.hok.write mu he k heo new)
theorem Inv.pins_of {pins' : List (Addr × Obj)} (I : Inv X pins σ H s) (h : ∀ p ∈ pins', s.heap.get? p.1 = some p.2 ∧ H p.1 = none ∧ p.1 ≠ X.env.locals ∧ p.1 ∉ X.fs ∧ ∀ v, p.2.data ≠ .cell v) : Inv X pins' σ H s :=
  ⟨I.ok, I.os, I.bare, I.base, I.loc, I.cell, I.free, I.freeC, fun p hp => (List.mem_append.mp hp).elim (fun z => I.pin p (List.mem_append_left _ z)) (h p), I.hok, I.len⟩
theorem nodup_ix {N : List Str} (hN : N.Nodup) {i j : Nat} {x : Str} (a : N[i]? = some x) (b : N[j]? = some x) : i = j := by
  obtain ⟨h1, e1⟩ := List.getElem?_eq_some_iff.mp a
  obtain ⟨h2, e2⟩ := List.getElem?_eq_some_iff.mp b
  exact (List.getElem_inj hN).mp (e1.trans e2.symm)
theorem store_ok2 {M : Model} {A : Around} {E : Value → Shared → Prop} {i : Nat} {x : Str} {v : V} {u : Value} {Q : Unit → Shared → Prop} (I : Inv X pins σ H s) (hN : X.N.Nodup) (hi : X.N[i]? = some x) (hx : Loc X.env.scope x) (r : RelV v u)
    (h : ∀ s', Inv X pins (σ.set i (some v)) H s' → (∃ a, Heap.SameBut a s.heap s'.heap ∧ (a = X.env.locals ∨ X.env.cells.lookup x = some a)) → Q () s') (hf : X.fn x = true ∨ X.env.scope.names.lookup x = some .local := by first | exact .inl rfl | exact .inr rfl | assumption) : wpAny M A (storeName X.env x u) Q E s := by
  obtain ⟨m, hn, hl⟩ := id I.loc
  have hcls : (X.env.scope.kind == .class || (X.env.scope.kind == .module && X.env.locals != X.env.globals)) = false := by rw [I.ok.kind]; rfl
  have hiσ : i < σ.length := by rw [I.len]; exact (List.getElem?_eq_some_iff.mp hi).1
  have cne := I.cne
  have tracked : ∀ {a : Addr} {h' : Heap}, (∃ o, s.heap.get? a = some o ∧ H a = none) → Heap.SameBut a s.heap h' → HOk X.prog X.w H h' := fun {a h'} ha hs b ob e => by
    obtain ⟨_, _, hfree⟩ := ha
    refine (I.hok b ob e).stay (fun c w' hc q => (hs.2 c ?_).trans q) (fun _ q => q) fun _ _ q => q
    rintro rfl
    rcases hc with rfl | hc
    · rw [hfree] at e; cases e
    · rw [hfree] at hc; cases hc
  rcases hx with hk | hk
  · refine wpAny_storeName_local hk hn (fun h' hn' hs => ?_) hcls
    obtain ⟨oL, _, _, hoL, _⟩ := id hn
    refine h _ ⟨I.ok, I.os, I.bare, ⟨fun b o e n hb hx => ?_, fun b o e n hb hx => ?_, I.base.free, fun b o e hx => ?_, I.base.tups, I.base.frzs, I.base.tbls⟩, ⟨_, hn', fun j y v' e1 e2 e3 => ?_⟩, fun y c e => ?_, I.free, I.freeC, fun p hp => ?_, tracked ⟨oL, hoL, I.free⟩ hs, by simpa using I.len⟩ ⟨_, hs, .inl rfl⟩
    · exact (hs.2 b (Nat.ne_of_lt (Nat.lt_of_lt_of_le (Heap.lt_size e) I.ok.above))).trans (I.base.keep b o e n hb hx)
    · obtain ⟨sl, e1⟩ := I.base.slot b o e n hb hx
      exact ⟨sl, (hs.2 b (Nat.ne_of_lt (Nat.lt_of_lt_of_le (Heap.lt_size e) I.ok.above))).trans e1⟩
    · obtain ⟨o', e1⟩ := I.base.there b o e hx
      exact ⟨o', (hs.2 b (Nat.ne_of_lt (Nat.lt_of_lt_of_le (Heap.lt_size e) I.ok.above))).trans e1⟩
    · by_cases hj : j = i
      · subst hj
        rw [hi] at e1; cases e1
        rw [List.getElem?_set_self hiσ] at e2
        cases e2
        exact ⟨u, r, .inl ⟨hk, by simp⟩⟩
      · rw [List.getElem?_set_ne (Ne.symm hj)] at e2
        obtain ⟨u', r', q⟩ := hl j y v' e1 e2 e3
        refine ⟨u', r', ?_⟩
        rcases q with ⟨k, e⟩ | ⟨k, c, e, z⟩
        · refine .inl ⟨k, ?_⟩
          have : y ≠ x := fun e => hj (nodup_ix hN e1 (e ▸ hi))
          simp [this, e]
        · exact .inr ⟨k, c, e, z.sameBut hs (cne y c e)⟩
    · obtain ⟨w', z⟩ := I.cell y c e
      exact ⟨w', z.sameBut hs (cne y c e)⟩
    · obtain ⟨e, n, ne, nf, d⟩ := I.pin p hp
      exact ⟨(hs.2 p.1 ne).trans e, n, ne, nf, d⟩
  · have hfn : X.fn x = true := by
      rcases hf with z | z
      · exact z
      · rw [z] at hk; cases hk
    obtain ⟨c, hc⟩ := I.ok.has x (.inl hk)
    obtain ⟨w', z⟩ := I.cell x c hc
    refine wpAny_storeName_cell I.ok.kind hk hc z (fun h' hc' hs => ?_)
    obtain ⟨oc, hoc, hocd⟩ := id z
    refine h { s with heap := h' } ⟨I.ok, I.os, I.bare, ⟨fun b o e n hb hx => ?_, fun b o e n hb hx => ?_, I.base.free, fun b o e hx => ?_, I.base.tups, I.base.frzs, I.base.tbls⟩, ⟨m, hn.sameBut hs (Ne.symm (cne x c hc)), fun j y v' e1 e2 e3 => ?_⟩, fun y c' e => ?_, I.free, I.freeC, fun p hp => ?_, tracked ⟨oc, hoc, I.freeC x c hc⟩ hs, by simpa using I.len⟩ ⟨c, hs, .inr hc⟩
    · exact (hs.2 b (Nat.ne_of_lt (Nat.lt_of_lt_of_le (Heap.lt_size e) (I.ok.cab x c hfn hc)))).trans (I.base.keep b o e n hb hx)
    · obtain ⟨sl, e1⟩ := I.base.slot b o e n hb hx
      exact ⟨sl, (hs.2 b (Nat.ne_of_lt (Nat.lt_of_lt_of_le (Heap.lt_size e) (I.ok.cab x c hfn hc)))).trans e1⟩
    · obtain ⟨o', e1⟩ := I.base.there b o e hx
      exact ⟨o', (hs.2 b (Nat.ne_of_lt (Nat.lt_of_lt_of_le (Heap.lt_size e) (I.ok.cab x c hfn hc)))).trans e1⟩
    · by_cases hj : j = i
      · subst hj
        rw [hi] at e1; cases e1
        rw [List.getElem?_set_self hiσ] at e2
        cases e2
        exact ⟨u, r, .inr ⟨.inl hk, c, hc, hc'⟩⟩
      · rw [List.getElem?_set_ne (Ne.symm hj)] at e2
        obtain ⟨u', r', q⟩ := hl j y v' e1 e2 e3
        refine ⟨u', r', ?_⟩
        rcases q with q | ⟨k, c', e, z'⟩
        · exact .inl q
        · refine .inr ⟨k, c', e, z'.sameBut hs ?_⟩
          rintro rfl
          exact hj (nodup_ix hN e1 (I.ok.inj _ _ _ e hc ▸ hi))
    · by_cases hcc : c' = c
      · subst hcc; exact ⟨_, hc'⟩
      · obtain ⟨w2, z2⟩ := I.cell y c' e
        exact ⟨w2, z2.sameBut hs hcc⟩
    · obtain ⟨e, n, ne, nf, d⟩ := I.pin p hp
      refine ⟨(hs.2 p.1 ?_).trans e, n, ne, nf, d⟩
      intro q
      rw [q, hoc] at e
      have q' : oc = p.2 := Option.some.inj e
      exact d w' (by rw [← q']; exact hocd)
theorem store_ok {M : Model} {A : Around} {E : Value → Shared → Prop} {i : Nat} {x : Str} {v : V} {u : Value} {Q : Unit → Shared → Prop} (I : Inv X pins σ H s) (hN : X.N.Nodup) (hi : X.N[i]? = some x) (hx : Loc X.env.scope x) (r : RelV v u)
    (h : ∀ s', Inv X pins (σ.set i (some v)) H s' → Q () s') (hf : X.fn x = true ∨ X.env.scope.names.lookup x = some .local := by first | exact .inl rfl | exact .inr rfl | assumption) : wpAny M A (storeName X.env x u) Q E s :=
  store_ok2 I hN hi hx r (fun s' I' _ => h s' I') hf
theorem Inv.call' {s' : Shared} {ch : List Addr} (I : Inv X pins σ H s) (ho : s'.os = s.os) (u : Un (frs X.stack) ch H H' s.heap s'.heap) (hok : HOk X.prog X.w H' s'.heap) (hg : AllBare s'.gens)
    (hch : ∀ b ∈ ch, (b ∈ X.ex ∨ X.s₀.heap.objs.size ≤ b) ∧ b ≠ X.env.locals ∧ (∀ x c, X.env.cells.lookup x = some c → c ≠ b) ∧ ∀ p ∈ X.pn ++ pins, p.1 ≠ b) : Inv X pins σ H' s' := by
  obtain ⟨h', g', d', t', o'⟩ := s'
  have e : o' = s.os := ho
  subst e
  exact I.call (g' := g') (t' := t') (d' := d') u hok hg hch
end
abbrev XK := Value → Option Addr → Hp → Prop
abbrev St := List (Option V)
abbrev VK := V → Hp → Prop
abbrev TE := St → Hp → VK → Prop
abbrev TT := St → Hp → (Bool → Hp → Prop) → Prop
abbrev TA := St → Hp → (List V → Hp → Prop) → Prop
structure Ends where
  nx : St → Hp → Prop
  rt : VK
  bk : St → Hp → Prop := fun _ _ => False
  ct : St → Hp → Prop := fun _ _ => False
abbrev TS := Ends → St → Hp → Prop
def EP (X : Cx) (pins : List (Addr × Obj)) (σ : St) (Q : VK) (u : Value) (s' : Shared) : Prop := ∃ v H', Inv X pins σ H' s' ∧ RelV v u ∧ Q v H'
def TP (X : Cx) (pins : List (Addr × Obj)) (σ : St) (Q : Bool → Hp → Prop) (b : Bool) (s' : Shared) : Prop := ∃ H', Inv X pins σ H' s' ∧ Q b H'
def AP (X : Cx) (pins : List (Addr × Obj)) (σ : St) (Q : List V → Hp → Prop) (us : List Value) (s' : Shared) : Prop := ∃ vs H', Inv X pins σ H' s' ∧ Vals vs us ∧ Q vs H'
def SP (X : Cx) (pins : List (Addr × Obj)) (D : Ends) (f : Flow) (s' : Shared) : Prop :=
  match f with
  | .next => ∃ σ' H', Inv X pins σ' H' s' ∧ D.nx σ' H'
  | .brk => ∃ σ' H', Inv X pins σ' H' s' ∧ D.bk σ' H'
  | .cont => ∃ σ' H', Inv X pins σ' H' s' ∧ D.ct σ' H'
  | .ret u => ∃ v σ' H', Inv X pins σ' H' s' ∧ RelV v u ∧ D.rt v H'
def PE (X : Cx) (e : Expr) (t : TE) : Prop :=
  ∀ (pins : List (Addr × Obj)) (s : Shared) (σ : St) (H : Hp) (Q : VK), Inv X pins σ H s → t σ H Q → wpAny (model X.prog X.w) X.A (eval e X.env) (EP X pins σ Q) X.xe s
def PT (X : Cx) (e : Expr) (t : TT) : Prop :=
  ∀ (pins : List (Addr × Obj)) (s : Shared) (σ : St) (H : Hp) (Q : Bool → Hp → Prop), Inv X pins σ H s → t σ H Q → wpAny (model X.prog X.w) X.A (isTrue e X.env (eval e X.env)) (TP X pins σ Q) X.xe s
def PW (X : Cx) (e : Expr) (t : TT) : Prop :=
  ∀ (whole : Sem Value) (pins : List (Addr × Obj)) (s : Shared) (σ : St) (H : Hp) (Q : Bool → Hp → Prop), Inv X pins σ H s → t σ H Q → wpAny (model X.prog X.w) X.A (isTrue e X.env whole) (TP X pins σ Q) X.xe s
theorem PW.pt {X : Cx} {e : Expr} {t : TT} (h : PW X e t) : PT X e t := h _
def PA (X : Cx) (es : List Expr) (t : TA) : Prop :=
  ∀ (pos : Pos) (pins : List (Addr × Obj)) (s : Shared) (σ : St) (H : Hp) (Q : List V → Hp → Prop), Inv X pins σ H s → t σ H Q → wpAny (model X.prog X.w) X.A (spliced (backTo pos (starEach es X.env))) (AP X pins σ Q) X.xe s
def PS (X : Cx) (st : Stmt) (t : TS) : Prop :=
  ∀ (pins : List (Addr × Obj)) (s : Shared) (σ : St) (H : Hp) (D : Ends), Inv X pins σ H s → t D σ H → wpAny (model X.prog X.w) X.A (exec st X.env) (SP X pins D) X.xe s
def PSs (X : Cx) (st : List Stmt) (t : TS) : Prop :=
  ∀ (pins : List (Addr × Obj)) (s : Shared) (σ : St) (H : Hp) (D : Ends), Inv X pins σ H s → t D σ H → wpAny (model X.prog X.w) X.A (execs st X.env) (SP X pins D) X.xe s
theorem thn {α : Type} {t : Sem α} {Q Q' : α → Shared → Prop} {M : Model} {A : Around} {E : Value → Shared → Prop} {s : Shared} (h : wpAny M A t Q E s) (hQ : ∀ a s, Q a s → Q' a s) : wpAny M A t Q' E s := wpAny_mono h hQ fun _ _ x => x
end L2
namespace L2
open PySem PySem.Spec PyProof.Rows
section
variable {X : Cx}
def tVar (i : Nat) : TE := fun σ H Q => ∃ v, σ[i]? = some (some v) ∧ Q v H
def tC (v : V) : TE := fun _ H Q => Q v H
theorem pe_var {i : Nat} {x : Str} {pos : Pos} (hN : X.N[i]? = some x) (hv : Vis X.env.scope x) (hd : (x == ("__debug__" : Str)) = false := by decide) (hcd : (x == ("__classdict__" : Str)) = false := by decide) : PE X (.Name x pos) (tVar i) := by
  intro pins s σ H Q I h
  obtain ⟨v, e, h⟩ := h
  obtain ⟨m, hn, hl⟩ := I.loc
  obtain ⟨u, r, l⟩ := hl i x v hN e hv
  have fin : EP X pins σ Q u s := ⟨v, H, I, r, h⟩
  rcases l with ⟨hk, hm⟩ | ⟨hk, c, hc, hcell⟩
  · exact wpAny_Name (wpAny_loadName_local I.ok.kind hk hn hm fin) hd
  · rcases hk with hk | hk
    · exact wpAny_Name (wpAny_loadName_cell I.ok.kind hk hc hcell fin) hd
    · exact wpAny_Name (wpAny_loadName_free I.ok.kind hk hc hcell fin hcd) hd
theorem pe_int {i j pos} : PE X (.Constant (.int i) j pos) (tC (.int i)) := fun _ _ _ H _ I h => wpAny_Constant_int ⟨.int i, H, I.tok _, ⟨_, rfl⟩, h⟩
theorem pe_bl {b j pos} : PE X (.Constant (.bool b) j pos) (tC (.bl b)) := fun _ _ _ H _ I h => Constant_bool ⟨.bl b, H, I, rfl, h⟩
theorem pe_non {j pos} : PE X (.Constant .none j pos) (tC .non) := fun _ _ _ H _ I h => Constant_none ⟨.non, H, I, rfl, h⟩
theorem pe_str {x j pos} : PE X (.Constant (.str x) j pos) (tC (.str x)) := fun _ _ _ H _ I h => Calls.Constant_str ⟨.str x, H, I.tok _, ⟨_, rfl⟩, h⟩
def Gl (X : Cx) (x : Str) : Prop := X.env.kindOf x = some .globalImplicit
theorem ld_glob {E : Value → Shared → Prop} {pins : List (Addr × Obj)} {s : Shared} {σ : St} {H : Hp} {x : Str} {u : Value} {pos : Pos} {Q : Value → Shared → Prop} (I : Inv X pins σ H s) (hg : Gl X x) (hm : X.mg x = some u) (h : Q u s)
    (hd : (x == ("__debug__" : Str)) = false := by decide) : wpAny (model X.prog X.w) X.A (eval (.Name x pos) X.env) Q E s :=
  Calls.Name_function_global I.ok.kind hg (Calls.loadGlobal_global (by rw [I.ok.glob]; exact I.mod.glob.keeps I.bk) hm h) hd
theorem ld_blt {E : Value → Shared → Prop} {pins : List (Addr × Obj)} {s : Shared} {σ : St} {H : Hp} {x : Str} {u : Value} {pos : Pos} {Q : Value → Shared → Prop} (I : Inv X pins σ H s) (hg : Gl X x) (hm : X.mg x = none) (hv : bootBuiltins x = some u) (h : Q u s)
    (hn : x ≠ "__name__" := by decide) (hd : (x == ("__debug__" : Str)) = false := by decide) : wpAny (model X.prog X.w) X.A (eval (.Name x pos) X.env) Q E s := by
  obtain ⟨mb, h1, h2⟩ := I.mod.blt
  exact Calls.Name_function_global I.ok.kind hg (Calls.loadGlobal_builtin (by rw [I.ok.glob]; exact I.mod.glob.keeps I.bk) hm (by rw [I.ok.blt]; exact h1.keeps I.bk) ((h2 x hn).trans hv) h) hd
theorem pe_glob {x : Str} {v : V} {u : Value} {pos : Pos} (hg : Gl X x) (hm : X.mg x = some u) (r : RelV v u) (hd : (x == ("__debug__" : Str)) = false := by decide) : PE X (.Name x pos) (tC v) :=
  fun _ _ _ H _ I h => ld_glob I hg hm ⟨v, H, I, r, h⟩ hd
theorem pe_bltn {x : Str} {v : V} {u : Value} {pos : Pos} (hg : Gl X x) (hm : X.mg x = none) (hv : bootBuiltins x = some u) (r : RelV v u) (hn : x ≠ "__name__" := by decide) (hd : (x == ("__debug__" : Str)) = false := by decide) : PE X (.Name x pos) (tC v) :=
  fun _ _ _ H _ I h => ld_blt I hg hm hv ⟨v, H, I, r, h⟩ hn hd
def t2I (ta tb : TE) (k : Int → Int → Hp → Prop) : St → Hp → Prop := fun σ H => ta σ H fun x H1 => tb σ H1 fun y H2 => ∃ i j, x = .int i ∧ y = .int j ∧ k i j H2
def tAdd (ta tb : TE) : TE := fun σ H Q => t2I ta tb (fun i j H2 => Q (.int (i + j)) H2) σ H
def tSub (ta tb : TE) : TE := fun σ H Q => t2I ta tb (fun i j H2 => Q (.int (i - j)) H2) σ H
def tMul (ta tb : TE) : TE := fun σ H Q => t2I ta tb (fun i j H2 => (-(2 ^ 64) < i ∧ i < 2 ^ 64) ∧ Q (.int (i * j)) H2) σ H
variable {a b : Expr} {ta tb : TE} {pos : Pos}
def PC (X : Cx) (op : CmpOp) (a b : Expr) (t : TE) : Prop :=
  ∀ (pins : List (Addr × Obj)) (s : Shared) (σ : St) (H : Hp) (Q : VK), Inv X pins σ H s → t σ H Q →
    wpAny (model X.prog X.w) X.A (eval a X.env) (fun v s₁ => wpAny (model X.prog X.w) X.A (eval b X.env) (fun u s₂ => wpAny (model X.prog X.w) X.A (compareOp op v u) (EP X pins σ Q) X.xe s₂) X.xe s₁) X.xe s
def tCmp (p : Int → Int → Bool) (ta tb : TE) : TE := fun σ H Q => t2I ta tb (fun i j H2 => Q (.bl (p i j)) H2) σ H
abbrev tLt : TE → TE → TE := tCmp fun i j => decide (i < j)
abbrev tLe : TE → TE → TE := tCmp fun i j => decide (i ≤ j)
abbrev tGt : TE → TE → TE := tCmp fun i j => decide (j < i)
abbrev tGe : TE → TE → TE := tCmp fun i j => decide (j ≤ i)
abbrev tEqI : TE → TE → TE := tCmp fun i j => decide (i = j)
abbrev tNeI : TE → TE → TE := tCmp fun i j => !decide (i = j)
def tIsN (ta : TE) : TE := fun σ H Q => ta σ H fun x H1 => Q (.bl (decide (x = .non))) H1
def tNotN (ta : TE) : TE := fun σ H Q => ta σ H fun x H1 => Q (.bl (!decide (x = .non))) H1
def tB (t : TE) : TT := fun σ H Q => t σ H fun x H1 => ∃ c, x = .bl c ∧ Q c H1
theorem pt_val {e : Expr} {t : TE} (h : PE X e t) (he : ∀ whole, isTrue e X.env whole = (do let v ← whole; standAt e.pos; holding [v] (truthy v)) := by intro _; rfl) : PT X e (tB t) := by
  intro pins s σ H Q I hw
  refine isTrue_plain (thn (h pins s σ H _ I hw) fun v s1 ⟨x, H1, I1, r1, q1⟩ => ?_) (he _)
  obtain ⟨d, rfl, q⟩ := q1
  cases r1
  exact wpAny_truthy_bool ⟨H1, I1, q⟩
variable {tA tB' : TT} {rest : List Expr}
def tAnd (t u : TT) : TT := fun σ H Q => t σ H fun c H1 => if c = true then u σ H1 Q else Q false H1
def tOr (t u : TT) : TT := fun σ H Q => t σ H fun c H1 => if c = true then Q true H1 else u σ H1 Q
def tNot (t : TT) : TT := fun σ H Q => t σ H fun c H1 => Q (!c) H1
theorem pw_or1 (ha : PT X a tA) : PW X (.BoolOp .Or [a] pos) tA := by
  intro wh pins s σ H Q I h
  refine isTrue_or (thn (ha pins s σ H Q I h) fun c s1 e => ?_)
  cases c with
  | false => exact isTrue_or_nil e
  | true => exact e
theorem pw_or (ha : PT X a tA) (hb : PW X (.BoolOp .Or (b :: rest) pos) tB') : PW X (.BoolOp .Or (a :: b :: rest) pos) (tOr tA tB') := by
  intro wh pins s σ H Q I h
  refine isTrue_or (thn (ha pins s σ H _ I h) fun c s1 ⟨H1, I1, q1⟩ => ?_)
  cases c with
  | true => exact ⟨H1, I1, q1⟩
  | false => exact hb wh pins s1 σ H1 Q I1 q1
theorem pt_not (ha : PT X a tA) : PT X (.UnaryOp .Not a pos) (tNot tA) := by
  intro pins s σ H Q I h
  exact isTrue_not (ha pins s σ H (fun c H1 => Q (!c) H1) I h)
def tAndV (ta tb : TE) : TE := fun σ H Q => ta σ H fun x H1 => ∃ c, x = .bl c ∧ if c = true then tb σ H1 Q else Q (.bl false) H1
def tOrV (ta tb : TE) : TE := fun σ H Q => ta σ H fun x H1 => ∃ c, x = .bl c ∧ if c = true then Q (.bl true) H1 else tb σ H1 Q
def tNotV (ta : TE) : TE := fun σ H Q => ta σ H fun x H1 => ∃ c, x = .bl c ∧ Q (.bl (!c)) H1
theorem pe_one {op} {t : TE} (h : PE X a t) : PE X (.BoolOp op [a] pos) t := fun pins s σ H Q I hw => BoolOp_one (h pins s σ H Q I hw)
theorem pe_and (ha : PE X a ta) (hb : PE X (.BoolOp .And (b :: rest) pos) tb) : PE X (.BoolOp .And (a :: b :: rest) pos) (tAndV ta tb) := by
  intro pins s σ H Q I h
  refine BoolOp_and (thn (ha pins s σ H _ I h) fun v s1 ⟨x, H1, I1, r1, q1⟩ => ?_)
  obtain ⟨c, rfl, q1⟩ := q1
  cases r1
  refine wpAny_truthy_bool ?_
  cases c with
  | true => exact hb pins s1 σ H1 Q I1 q1
  | false => exact ⟨.bl false, H1, I1, rfl, q1⟩
theorem pe_not (ha : PE X a ta) : PE X (.UnaryOp .Not a pos) (tNotV ta) := by
  intro pins s σ H Q I h
  refine UnaryOp_ (thn (ha pins s σ H _ I h) fun v s1 ⟨x, H1, I1, r1, q1⟩ => ?_)
  obtain ⟨c, rfl, q1⟩ := q1
  cases r1
  exact not_of (wpAny_truthy_bool ⟨.bl (!c), H1, I1, rfl, q1⟩)
def tIf (t : TT) (ta tb : TE) : TE := fun σ H Q => t σ H fun c H1 => if c = true then ta σ H1 Q else tb σ H1 Q
end
end L2
namespace L2
open PySem PySem.Spec PyProof.Rows
def SqL (K : PySem.W.Frag) (H : Hp) (a : Addr) (xs : List V) : Prop :=
  Rd H a (.lst xs) ∨
    ∃ (o : Obj) (its : Array Value) (n : Nat), K.lookup a = some o ∧ o.cls = .type "list" ∧ o.dict = none ∧ o.data = .seq its n ∧ its.size ≤ sizeLine ∧ Vals xs its.toList
def SqT (K : PySem.W.Frag) (H : Hp) (a : Addr) (xs : List V) : Prop :=
  Rd H a (.tup xs) ∨
    ∃ (o : Obj) (its : Array Value) (n : Nat), K.lookup a = some o ∧ o.cls = .type "tuple" ∧ o.data = .seq its n ∧ its.size ≤ sizeLine ∧ Vals xs its.toList
def absV : Value → Option V
  | .none => some .non
  | .bool b => some (.bl b)
  | .int i _ => some (.int i)
  | .str x _ => some (.str x)
  | .bytes b _ => some (.byt b)
  | .float b _ => some (.flt b)
  | .ref a => some (.ref a)
  | .type n => some (.ty n)
  | _ => none
theorem RelV.abs {x : V} {u : Value} (r : RelV x u) : absV u = some x := by
  cases x with
  | non => cases r; rfl
  | bl _ => cases r; rfl
  | int _ => obtain ⟨t, rfl⟩ := r; rfl
  | str _ => obtain ⟨t, rfl⟩ := r; rfl
  | byt _ => obtain ⟨t, rfl⟩ := r; rfl
  | flt _ => obtain ⟨t, rfl⟩ := r; rfl
  | ref _ => cases r; rfl
  | ty _ => cases r; rfl
theorem RelV.inj {x y : V} {u : Value} (r : RelV x u) (q : RelV y u) : x = y := Option.some.inj (r.abs.symm.trans q.abs)
theorem Vals.inj : ∀ {xs ys : List V} {us : List Value}, Vals xs us → Vals ys us → xs = ys
  | _, _, _, .nil, .nil => rfl
  | _, _, _, .cons r t, .cons r' t' => by rw [r.inj r', Vals.inj t t']
section
variable {X : Cx} {pins : List (Addr × Obj)} {σ : St} {H : Hp} {s : Shared} {a : Addr} {xs ys : List V}
theorem SqL.of {K : PySem.W.Frag} (h : H a = some (.lst xs)) : SqL K H a xs := .inl (.inl h)
theorem SqT.of {K : PySem.W.Frag} (h : H a = some (.tup xs)) : SqT K H a xs := .inl (.inl h)
theorem Inv.list (I : Inv X pins σ H s) (h : SqL X.K H a xs) : ∃ its : List Value, Vals xs its ∧ PlainL s.heap a its.toArray ∧ xs.length ≤ sizeLine := by
  rcases h with h | ⟨o, its, n, hk, hc, hd, hs, hz, r⟩
  · obtain ⟨z, its, n, r, e⟩ := h.ok I.hok
    exact ⟨its, r, ⟨_, n, e, rfl, rfl, rfl⟩, z⟩
  · refine ⟨its.toList, r, ⟨o, n, I.kIn a o hk, hc, hd, by simpa using hs⟩, ?_⟩
    have e := r.length
    simp only [Array.length_toList] at e
    (first|lia|omega)
theorem Inv.tuple (I : Inv X pins σ H s) (h : SqT X.K H a xs) : ∃ its : List Value, Vals xs its ∧ IsTup s.heap a its.toArray ∧ xs.length ≤ sizeLine := by
  rcases h with h | ⟨o, its, n, hk, hc, hs, hz, r⟩
  · obtain ⟨z, its, r, p⟩ := h.ok I.hok
    exact ⟨its, r, p, z⟩
  · refine ⟨its.toList, r, ⟨o, I.kIn a o hk, hc, n, by simpa using hs⟩, ?_⟩
    have e := r.length
    simp only [Array.length_toList] at e
    (first|lia|omega)
theorem Inv.list_inj (I : Inv X pins σ H s) (h : SqL X.K H a xs) (h' : SqL X.K H a ys) : xs = ys := by
  obtain ⟨its, r, ⟨o, n, e, _, _, d⟩, _⟩ := I.list h
  obtain ⟨its', r', ⟨o', n', e', _, _, d'⟩, _⟩ := I.list h'
  rw [e] at e'; cases e'
  rw [d] at d'
  injection d' with d1 _
  have : its = its' := by simpa using congrArg Array.toList d1
  subst this
  exact r.inj r'
end
abbrev Cx.wish (X : Cx) (E : Value → Shared → Prop) : Cx := { X with xe := E }
abbrev Cx.nox (X : Cx) : Cx := X.wish fun _ _ => False
theorem Cx.Ok.wish {X : Cx} (ok : X.Ok) (E : Value → Shared → Prop) : (X.wish E).Ok :=
  ⟨ok.mod, ok.kind, ok.glob, ok.blt, ok.above, ok.inj, ok.has, ok.cab, ok.hd, ok.frames, ok.stk, ok.exf, ok.bs, ok.bsz, ok.noex, ok.exfs, ok.funs, ok.frf⟩
theorem Cx.Ok.unwish {X : Cx} {E : Value → Shared → Prop} (ok : (X.wish E).Ok) : X.Ok :=
  ⟨ok.mod, ok.kind, ok.glob, ok.blt, ok.above, ok.inj, ok.has, ok.cab, ok.hd, ok.frames, ok.stk, ok.exf, ok.bs, ok.bsz, ok.noex, ok.exfs, ok.funs, ok.frf⟩
section
variable {X : Cx} {pins : List (Addr × Obj)} {σ : St} {H : Hp} {s : Shared} {E : Value → Shared → Prop}
theorem Inv.wish (I : Inv X pins σ H s) (E : Value → Shared → Prop) : Inv (X.wish E) pins σ H s := ⟨I.ok.wish E, I.os, I.bare, I.base, I.loc, I.cell, I.free, I.freeC, I.pin, I.hok, I.len⟩
theorem Inv.unwish (I : Inv (X.wish E) pins σ H s) : Inv X pins σ H s := ⟨I.ok.unwish, I.os, I.bare, I.base, I.loc, I.cell, I.free, I.freeC, I.pin, I.hok, I.len⟩
theorem SP.unwish {D : Ends} {f : Flow} {s' : Shared} (h : SP (X.wish E) pins D f s') : SP X pins D f s' := by
  cases f with
  | next => obtain ⟨σ', H', I, q⟩ := h; exact ⟨σ', H', I.unwish, q⟩
  | brk => obtain ⟨σ', H', I, q⟩ := h; exact ⟨σ', H', I.unwish, q⟩
  | cont => obtain ⟨σ', H', I, q⟩ := h; exact ⟨σ', H', I.unwish, q⟩
  | ret u => obtain ⟨v, σ', H', I, r, q⟩ := h; exact ⟨v, σ', H', I.unwish, r, q⟩
theorem PSs.nox {st : List Stmt} {t : TS} (h : PSs X.nox st t) : PSs X st t := fun pins s σ H D I hw =>
  wpAny_mono (h pins s σ H D (I.wish _) hw) (fun _ _ q => q.unwish) fun _ _ z => False.elim z
end
section
variable {X : Cx} {st : Stmt} {rest : List Stmt} {t u : TS} {e : Expr} {te : TE} {pos : Pos}
def tNext : TS := fun D σ H => D.nx σ H
def tSeq (t u : TS) : TS := fun D σ H => t { D with nx := u D } σ H
theorem pss_nil : PSs X [] tNext := fun _ _ σ H _ I h => wpAny_execs_nil ⟨σ, H, I, h⟩
theorem pss_cons (h1 : PS X st t) (h2 : PSs X rest u) : PSs X (st :: rest) (tSeq t u) := by
  intro pins s σ H D I h
  refine wpAny_execs_cons (thn (h1 pins s σ H { D with nx := u D } I h) fun f s1 q => ?_)
  cases f with
  | next =>
    obtain ⟨σ', H', I', q⟩ := q
    exact h2 pins s1 σ' H' D I' q
  | ret v => exact q
  | brk => exact q
  | cont => exact q
theorem pss_one (h1 : PS X st t) : PSs X [st] t := by
  intro pins s σ H D I h
  refine wpAny_execs_cons (thn (h1 pins s σ H D I h) fun f s1 q => ?_)
  cases f with
  | next => exact wpAny_execs_nil q
  | ret v => exact q
  | brk => exact q
  | cont => exact q
def tBreak : TS := fun D σ H => D.bk σ H
def tCont : TS := fun D σ H => D.ct σ H
theorem Inv.quiet {pins : List (Addr × Obj)} {σ : St} {H : Hp} {s : Shared} (I : Inv X pins σ H s) : interactive X.env = false := by simp [interactive, I.ok.kind]
def tDrop (te : TE) : TS := fun D σ H => te σ H fun _ H1 => D.nx σ H1
theorem ps_expr (he : PE X e te) (hs : swapsWith e none pos.line X.env = pure false := by rfl) : PS X (.Expr e pos) (tDrop te) := by
  intro pins s σ H D I h
  exact wpAny_Expr_any (thn (he pins s σ H _ I h) fun v s1 ⟨x, H1, I1, r1, q1⟩ => ⟨σ, H1, I1, q1⟩) I.quiet hs
def tRet (te : TE) : TS := fun D σ H => te σ H D.rt
theorem ps_ret (he : PE X e te) : PS X (.Return (some e) pos) (tRet te) := by
  intro pins s σ H D I h
  exact wpAny_Return_some (thn (he pins s σ H _ I h) fun v s1 ⟨x, H1, I1, r1, q1⟩ => ⟨x, σ, H1, I1, r1, q1⟩)
def tRetN : TS := fun D _ H => D.rt .non H
def tIfS (c : TT) (t u : TS) : TS := fun D σ H => c σ H fun b H1 => if b = true then t D σ H1 else u D σ H1
theorem ps_if {c : Expr} {a b : List Stmt} {tc : TT} (hc : PT X c tc) (ha : PSs X a t) (hb : PSs X b u) : PS X (.If c a b pos) (tIfS tc t u) := by
  intro pins s σ H D I h
  refine wpAny_If (thn (hc pins s σ H _ I h) fun d s1 ⟨H1, I1, q1⟩ => ?_)
  cases d with
  | true => exact ha pins s1 σ H1 D I1 q1
  | false => exact hb pins s1 σ H1 D I1 q1
def tNever : TS := fun _ _ _ => False
theorem ps_never : PS X st tNever := fun _ _ _ _ _ _ h => h.elim
end
abbrev TG := V → St → Hp → (St → Hp → Prop) → Prop
abbrev TGs := List V → St → Hp → (St → Hp → Prop) → Prop
def PG (X : Cx) (target : Expr) (t : TG) : Prop :=
  ∀ (pins : List (Addr × Obj)) (s : Shared) (σ : St) (H : Hp) (v : V) (u : Value) (Q : St → Hp → Prop), Inv X pins σ H s → RelV v u → t v σ H Q →
    wpAny (model X.prog X.w) X.A (assign target X.env u) (fun _ s' => ∃ σ' H', Inv X pins σ' H' s' ∧ Q σ' H') X.xe s
def PGs (X : Cx) (ts : List Expr) (t : TGs) : Prop :=
  ∀ (pins : List (Addr × Obj)) (s : Shared) (σ : St) (H : Hp) (vs : List V) (us : List Value) (Q : St → Hp → Prop), Inv X pins σ H s → Vals vs us → t vs σ H Q →
    wpAny (model X.prog X.w) X.A (assignInOrder ((assignEach ts X.env).map (·.2)) us) (fun _ s' => ∃ σ' H', Inv X pins σ' H' s' ∧ Q σ' H') X.xe s
abbrev TSet := V → V → V → Hp → (Hp → Prop) → Prop
def PSet (X : Cx) (t : TSet) : Prop :=
  ∀ (pins : List (Addr × Obj)) (s : Shared) (σ : St) (H : Hp) (o i v : V) (ov iv u : Value) (Q : Hp → Prop), Inv X pins σ H s → RelV o ov → RelV i iv → RelV v u → t o i v H Q →
    wpAny (model X.prog X.w) X.A (setItem ov iv u) (fun _ s' => ∃ H', Inv X pins σ H' s' ∧ Q H') X.xe s
abbrev TIp := V → V → Hp → VK → Prop
def PIp (X : Cx) (op : Operator) (t : TIp) : Prop :=
  ∀ (pins : List (Addr × Obj)) (s : Shared) (σ : St) (H : Hp) (x y : V) (v u : Value) (Q : VK), Inv X pins σ H s → RelV x v → RelV y u → t x y H Q →
    wpAny (model X.prog X.w) X.A (inplaceOp op v u) (EP X pins σ Q) X.xe s
section
variable {X : Cx} {pos : Pos}
def gName (i : Nat) : TG := fun v σ H Q => Q (σ.set i (some v)) H
theorem pg_name {i : Nat} {x : Str} (hN : X.N.Nodup) (hi : X.N[i]? = some x) (hx : Loc X.env.scope x) (hf : X.fn x = true ∨ X.env.scope.names.lookup x = some .local := by first | exact .inl rfl | exact .inr rfl | assumption) : PG X (.Name x pos) (gName i) := by
  intro pins s σ H v u Q I r h
  exact wpAny_assign_Name (store_ok I hN hi hx r (fun s' I' => ⟨_, H, I', h⟩) hf)
def gNil : TGs := fun vs σ H Q => vs = [] ∧ Q σ H
def gCons (t : TG) (u : TGs) : TGs := fun vs σ H Q => ∃ v r, vs = v :: r ∧ t v σ H fun σ' H' => u r σ' H' Q
theorem pgs_nil : PGs X [] gNil := by
  intro pins s σ H vs us Q I r h
  obtain ⟨e, h⟩ := h
  subst e
  cases r
  exact assignInOrder_nil ⟨σ, H, I, h⟩
theorem pgs_cons {e : Expr} {es : List Expr} {t : TG} {u : TGs} (h1 : PG X e t) (h2 : PGs X es u)
    (hs : (assignEach (e :: es) X.env).map (·.2) = assign e X.env :: (assignEach es X.env).map (·.2) := by rfl) : PGs X (e :: es) (gCons t u) := by
  intro pins s σ H vs us Q I r h
  obtain ⟨v, vr, e1, h⟩ := h
  subst e1
  cases r with
  | cons r rr =>
    rw [hs]
    refine assignInOrder_cons (thn (h1 pins s σ H _ _ _ I r h) fun _ s1 ⟨σ1, H1, I1, q1⟩ => ?_)
    exact h2 pins s1 σ1 H1 _ _ Q I1 rr q1
def gTup (K : PySem.W.Frag) (n : Nat) (t : TGs) : TG := fun v σ H Q => ∃ a xs, v = .ref a ∧ SqT K H a xs ∧ xs.length = n ∧ t xs σ H Q
theorem pg_tup {es : List Expr} {k : Nat} {t : TGs} {n : Nat} (hc : X.calm = true) (h : PGs X es t)
    (hn : (assignEach es X.env).length = n := by rfl) (hst : (assignEach es X.env).findIdx? (·.1) = none := by rfl) : PG X (.Tuple es k pos) (gTup X.K n t) := by
  intro pins s σ H v u Q I r hw
  obtain ⟨a, xs, e1, hq, hl, hw⟩ := hw
  subst e1
  cases r
  obtain ⟨its, rv, ht, hz⟩ := I.tuple hq
  refine assign_Tuple_tuple (I.ok.hd hc) ht (by simp [hn, ← hl, rv.length]) hst fun h' hx => ?_
  have I1 : Inv X pins σ H { s with heap := h' } := I.kept (t' := s.toks) fun b o e => hx b o (Nat.ne_of_lt (Heap.lt_size e)) e
  exact h pins _ σ H xs _ Q I1 (by simpa using rv) hw
def gSub (to ti : TE) (t : TSet) : TG := fun v σ H Q => to σ H fun o H1 => ti σ H1 fun i H2 => t o i v H2 fun H3 => Q σ H3
theorem pg_sub {o i : Expr} {to ti : TE} {t : TSet} (ho : PE X o to) (hi : PE X i ti) (hs : PSet X t)
    (ha : ∀ v, assign (.Subscript o i pos) X.env v = (do
      let ov ← holding [v] (eval o X.env)
      let iv ← holding [v, ov] (eval i X.env)
      standAt pos
      holding [v, ov, iv] (setItem ov iv v)
      release [v, ov, iv] []) := by intro _; rfl) : PG X (.Subscript o i pos) (gSub to ti t) := by
  intro pins s σ H v u Q I r h
  rw [ha]
  refine wpAny_bind (wpAny_holding (thn (ho pins s σ H _ I h) fun ov s1 ⟨x, H1, I1, r1, q1⟩ => ?_))
  refine wpAny_bind (wpAny_holding (thn (hi pins s1 σ H1 _ I1 q1) fun iv s2 ⟨y, H2, I2, r2, q2⟩ => ?_))
  refine wpAny_bind (wpAny_standAt (wpAny_bind (wpAny_holding (thn (hs pins s2 σ H2 x y v ov iv u _ I2 r1 r2 r q2) fun _ s3 ⟨H3, I3, q3⟩ => ?_))))
  exact wpAny_release ⟨σ, H3, I3, q3⟩
def tAsg (te : TE) (g : TG) : TS := fun D σ H => te σ H fun x H1 => g x σ H1 D.nx
theorem ps_asg {tg e : Expr} {te : TE} {g : TG} (he : PE X e te) (hg : PG X tg g) (hs : swapsWithSole [tg] e pos.line X.env = pure false := by rfl) (hw : swappedStores [tg] e X.env = pure none := by rfl)
    (h1 : (assignEach [tg] X.env).map (·.2) = [assign tg X.env] := by rfl) : PS X (.Assign [tg] e pos) (tAsg te g) := by
  intro pins s σ H D I h
  refine wpAny_Assign_stores (thn (he pins s σ H _ I h) fun v s1 ⟨x, H1, I1, r1, q1⟩ => ?_) hs hw
  rw [h1]
  exact thn (hg pins s1 σ H1 x v _ I1 r1 q1) fun _ s2 q => q
theorem ps_set {i : Nat} {x : Str} {e : Expr} {te : TE} {pos' : Pos} (hN : X.N.Nodup) (hi : X.N[i]? = some x) (hx : Loc X.env.scope x) (he : PE X e te) (hs : swapsWith e (some (.Name x pos')) pos.line X.env = pure false := by rfl) (hf : X.fn x = true ∨ X.env.scope.names.lookup x = some .local := by first | exact .inl rfl | exact .inr rfl | assumption) :
    PS X (.Assign [.Name x pos'] e pos) (tAsg te (gName i)) := by
  intro pins s σ H D I h
  refine wpAny_Assign_Name (thn (he pins s σ H _ I h) fun v s1 ⟨y, H1, I1, r1, q1⟩ => ?_) hs
  exact store_ok I1 hN hi hx r1 (fun s2 I2 => ⟨_, H1, I2, q1⟩) hf
def tPar (i j : Nat) (ta : TA) : TS := fun D σ H => ta σ H fun vs H1 => ∃ v w, vs = [v, w] ∧ D.nx ((σ.set i (some v)).set j (some w)) H1
def tAug (i : Nat) (te : TE) (ti : TIp) : TS := fun D σ H => ∃ x, σ[i]? = some (some x) ∧ te σ H fun y H1 => ti x y H1 fun z H2 => D.nx (σ.set i (some z)) H2
def tAugS (to ti te : TE) (tget : V → V → Hp → VK → Prop) (tip : TIp) (tset : TSet) : TS := fun D σ H => to σ H fun o H1 => ti σ H1 fun i H2 => tget o i H2 fun x H3 => te σ H3 fun y H4 => tip x y H4 fun z H5 => tset o i z H5 fun H6 => D.nx σ H6
def PGet (X : Cx) (t : V → V → Hp → VK → Prop) : Prop :=
  ∀ (pins : List (Addr × Obj)) (s : Shared) (σ : St) (H : Hp) (o i : V) (ov iv : Value) (Q : VK), Inv X pins σ H s → RelV o ov → RelV i iv → t o i H Q →
    wpAny (model X.prog X.w) X.A (getItem ov iv) (EP X pins σ Q) X.xe s
def ipI (f : Int → Int → Int) : TIp := fun x y H Q => ∃ i j, x = .int i ∧ y = .int j ∧ Q (.int (f i j)) H
end
section
variable {X : Cx} {pos : Pos}
def tWhile (c : TT) (tb : TS) : TS := fun D σ H => ∃ W : Nat → St → Hp → Prop, (∃ m, W m σ H) ∧ ∀ m σ H, W m σ H →
  c σ H fun b H1 => if b = true then ∃ N : St → Hp → Prop, (∀ σ' H', N σ' H' → ∃ m', m' < m ∧ W m' σ' H') ∧ tb { D with nx := N, ct := N, bk := D.nx } σ H1 else D.nx σ H1
end
structure It where
  go : Nat → Hp → Prop
  yld : Nat → Hp → V → Hp → Prop
  stop : Nat → Hp → Prop
def FpOk (X : Cx) (pins : List (Addr × Obj)) (H : Hp) (b : Addr) : Prop :=
  H b = none ∧ b ≠ X.env.locals ∧ b ∉ X.fs ∧ (b ∈ X.ex ∨ X.s₀.heap.objs.size ≤ b) ∧ (∀ x c, X.env.cells.lookup x = some c → c ≠ b) ∧ ∀ p ∈ X.pn ++ pins, p.1 ≠ b
theorem Inv.fpOk {X : Cx} {pins : List (Addr × Obj)} {σ : St} {H H' : Hp} {s : Shared} {b : Addr} (I : Inv X pins σ H s) (hb : s.heap.objs.size ≤ b) (hn : H' b = none) : FpOk X pins H' b := by
  refine ⟨hn, Nat.ne_of_gt (Nat.lt_of_lt_of_le I.lt hb), I.nofs hb, .inr (Nat.le_trans I.sz hb), fun x c e z => ?_, fun p hp z => ?_⟩
  · obtain ⟨v, q⟩ := I.cell x c e
    exact absurd (Nat.lt_of_lt_of_le q.lt (by rw [z]; exact hb)) (Nat.lt_irrefl _)
  · exact absurd (Nat.lt_of_lt_of_le (Heap.lt_size (I.pin p hp).1) (by rw [z]; exact hb)) (Nat.lt_irrefl _)
structure Turn (P : Program) (w : World) (K : PySem.W.Frag) (tg : Expr) (J : It) (fp : List Addr) (it : Addr) (tn : Nat → Heap → Prop) : Prop where
  mem : it ∈ fp
  obj : ∀ i h, tn i h → ∀ b ∈ fp, ∃ o, h.get? b = some o ∧ ∀ v, o.data ≠ .cell v
  keep : ∀ i h h', tn i h → (∀ b ∈ fp, ∀ o, h.get? b = some o → h'.get? b = some o) → tn i h'
  item : ∀ (X : Cx), X.prog = P → X.w = w → X.K = K → X.calm = true → ∀ (i : Nat) (pins : List (Addr × Obj)) (s : Shared) (σ : St) (H : Hp) (E : Value → Shared → Prop), Inv X pins σ H s → (∀ b ∈ fp, FpOk X pins H b) → tn i s.heap → J.go i H →
    wpAny (model P w) X.A (pyNext (.ref it)) (fun r s1 => ∃ u, r = some u ∧
      wpAny (model P w) X.A (letOwnedTupleGo tg (.ref it) u) (fun _ s2 => ∃ x H', Inv X pins σ H' s2 ∧ RelV x u ∧ J.yld i H x H' ∧ tn (i + 1) s2.heap ∧ ∀ b ∈ fp, H' b = none) E s1) E s
  done : ∀ (X : Cx), X.prog = P → X.w = w → X.K = K → X.calm = true → ∀ (i : Nat) (pins : List (Addr × Obj)) (s : Shared) (σ : St) (H : Hp) (E : Value → Shared → Prop), Inv X pins σ H s → (∀ b ∈ fp, FpOk X pins H b) → tn i s.heap → J.stop i H →
    wpAny (model P w) X.A (pyNext (.ref it)) (fun r s1 => r = none ∧ Inv X pins σ H s1) E s
  self : ∀ (A : Around) (i : Nat) (s : Shared) (Q : Value → Shared → Prop) (E : Value → Shared → Prop), tn i s.heap → Q (.ref it) s → wpAny (model P w) A (pyIter (.ref it)) Q E s
abbrev TI := St → Hp → (It → Hp → Prop) → Prop
def PIE (X : Cx) (pins : List (Addr × Obj)) (σ : St) (tg : Expr) (R : It → Hp → Prop) (itv : Value) (s2 : Shared) : Prop :=
  ∃ (it : Addr) (fp : List Addr) (tn : Nat → Heap → Prop) (J : It) (H' : Hp), itv = .ref it ∧ Inv X pins σ H' s2 ∧ Turn X.prog X.w X.K tg J fp it tn ∧ tn 0 s2.heap ∧ (∀ b ∈ fp, FpOk X pins H' b) ∧ R J H'
def PI (X : Cx) (tg iter : Expr) (wi : TI) : Prop :=
  ∀ (pins : List (Addr × Obj)) (s : Shared) (σ : St) (H : Hp) (R : It → Hp → Prop), Inv X pins σ H s → wi σ H R →
    wpAny (model X.prog X.w) X.A (eval iter X.env) (fun v s1 => wpAny (model X.prog X.w) X.A (pyIter v) (PIE X pins σ tg R) X.xe s1) X.xe s
theorem go_of {M : Model} {A : Around} {E : Value → Shared → Prop} {s : Shared} {tg : Expr} {it : Addr} {u : Value} {o : Obj} {n : String} {vs : Array Value} {Q : Unit → Shared → Prop} (ho : s.heap.get? it = some o) (hc : o.cls = .type n) (hd : o.data = .fields vs)
    (hn : ["enumerate", "zip", "dict_itemiterator", "dict_reverseitemiterator", "odict_iterator", "itertools.zip_longest", "itertools.pairwise"].contains n = false) (hQ : Q () s) : wpAny M A (letOwnedTupleGo tg (.ref it) u) Q E s := by
  unfold letOwnedTupleGo
  cases tg <;> first
    | exact wpAny_pure hQ
    | (cases u <;> first
        | exact wpAny_pure hQ
        | (refine wpAny_bind (wpAny_load ho ?_)
           rw [hc, hd]
           show wpAny M A (if (["enumerate", "zip", "dict_itemiterator", "dict_reverseitemiterator", "odict_iterator", "itertools.zip_longest", "itertools.pairwise"].contains n && vs[0]? == some (rawInt _)) = true then _ else _) Q E s
           rw [if_neg (by intro h; rw [hn, Bool.false_and] at h; cases h)]
           exact wpAny_pure hQ))
def Itl (K : PySem.W.Frag) (a : Addr) : It :=
  ⟨fun i H => ∃ xs x, SqL K H a xs ∧ xs[i]? = some x, fun i H x H' => H' = H ∧ ∀ xs, SqL K H a xs → xs[i]? = some x, fun i H => ∃ xs, SqL K H a xs ∧ xs.length ≤ i⟩
def Itt (K : PySem.W.Frag) (a : Addr) : It :=
  ⟨fun i H => ∃ xs x, SqT K H a xs ∧ xs[i]? = some x, fun i H x H' => H' = H ∧ ∀ xs, SqT K H a xs → xs[i]? = some x, fun i H => ∃ xs, SqT K H a xs ∧ xs.length ≤ i⟩
def Itr (lo : Int) (n : Nat) : It := ⟨fun i _ => i < n, fun i H x H' => H' = H ∧ x = .int (lo + i), fun i _ => n ≤ i⟩
theorem turn_list {P : Program} {w : World} {K : PySem.W.Frag} {tg : Expr} (a it : Addr) : Turn P w K tg (Itl K a) [it] it (fun i h => h.IsListIter it a i) where
  mem := by simp
  obj := fun i h st b hb => by
    have e : b = it := by simpa using hb
    subst e
    obtain ⟨o, e, c, d⟩ := st
    exact ⟨o, e, fun v z => by rw [d] at z; cases z⟩
  keep := fun i h h' st k => st.at fun o e => k it (by simp) o e
  item := by
    intro X hP hw hK hc i pins s σ H E I hf st hg
    subst hP hw hK
    obtain ⟨xs, x, hq, hx⟩ := hg
    obtain ⟨its, rv, p, hz⟩ := I.list hq
    obtain ⟨u, hu, ru⟩ := rv.get hx
    obtain ⟨f0, f1, f2, f3, f4, f5⟩ := hf it (by simp)
    refine wpAny_pyNext_list_item st p.isList (x := u) (by simpa using hu) fun h' st' sb => ?_
    have I1 : Inv X pins σ H { s with heap := h' } := I.turned (t' := s.toks) (fun b o hb e => (sb.2 b hb).trans e) f0 f1 f3 f4 f5
    obtain ⟨o, e, c, d⟩ := id st'
    exact ⟨u, rfl, go_of (s := { s with heap := h' }) e c d (by decide) ⟨x, H, I1, ru, ⟨rfl, fun ys hy => by rw [I.list_inj hy hq]; exact hx⟩, st', fun b hb => (hf b hb).1⟩⟩
  done := by
    intro X hP hw hK hc i pins s σ H E I hf st hg
    subst hP hw hK
    obtain ⟨xs, hq, hx⟩ := hg
    obtain ⟨its, rv, p, hz⟩ := I.list hq
    obtain ⟨f0, f1, f2, f3, f4, f5⟩ := hf it (by simp)
    have hl := rv.length
    exact wpAny_pyNext_list_end (I.ok.hd hc) st p.isList (by simp; (first|lia|omega)) fun h' eb => ⟨rfl, I.turned (t' := s.toks) (fun b o hb e => eb b o hb e) f0 f1 f3 f4 f5⟩
  self := fun _ _ _ _ _ st h => wpAny_pyIter_listiter st h
theorem turn_range {P : Program} {w : World} {K : PySem.W.Frag} {tg : Expr} (it : Addr) (lo : Int) (n : Nat) : Turn P w K tg (Itr lo n) [it] it (fun i h => IsRangeIter h it (lo + (i : Nat) * 1) ((n : Int) - (i : Nat)) 1) where
  mem := by simp
  obj := fun i h st b hb => by
    have e : b = it := by simpa using hb
    subst e
    exact ⟨_, st, fun v z => by
      have z' : Data.fields _ = Data.cell v := z
      cases z'⟩
  keep := fun i h h' st k => k it (by simp) _ st
  item := by
    intro X hP hw hK hc i pins s σ H E I hf st hg
    subst hP hw hK
    obtain ⟨f0, f1, f2, f3, f4, f5⟩ := hf it (by simp)
    have W := Walks.range (prog := X.prog) (w := X.w) (I.ok.hd hc) it lo 1 n
    refine W.item i s _ _ hg st fun v h' tk hv st' kk => ?_
    obtain ⟨t, rfl⟩ := hv
    have I1 : Inv X pins σ H { s with heap := h', toks := tk } := I.turned (fun b o hb e => kk b o (by simpa using hb) e) f0 f1 f3 f4 f5
    refine ⟨_, rfl, go_of (s := { s with heap := h', toks := tk }) (n := "range_iterator") st' rfl rfl (by decide) ⟨.int (lo + i), H, I1, ⟨t, ?_⟩, ⟨rfl, rfl⟩, st', fun b hb => (hf b hb).1⟩⟩
    rw [Int.mul_one]
  done := by
    intro X hP hw hK hc i pins s σ H E I hf st hg
    subst hP hw hK
    obtain ⟨f0, f1, f2, f3, f4, f5⟩ := hf it (by simp)
    exact wpAny_pyNext_range_end (I.ok.hd hc) st (by have : n ≤ i := hg; (first|lia|omega)) fun h' eb => ⟨rfl, I.turned (t' := s.toks) (fun b o hb e => eb b o hb e) f0 f1 f3 f4 f5⟩
  self := fun _ _ _ _ _ st h => wpAny_pyIter_rangeiter st h
end L2
namespace L2
open PySem PySem.Spec PyProof.Rows
section
variable {X : Cx} {tg : Expr}
def iList (K : PySem.W.Frag) (tl : TE) : TI := fun σ H R => tl σ H fun x H1 => ∃ a, x = .ref a ∧ (∃ xs, SqL K H1 a xs) ∧ R (Itl K a) H1
def iTup (K : PySem.W.Frag) (tl : TE) : TI := fun σ H R => tl σ H fun x H1 => ∃ a, x = .ref a ∧ (∃ xs, SqT K H1 a xs) ∧ R (Itt K a) H1
theorem pi_list {l : Expr} {tl : TE} (hl : PE X l tl) : PI X tg l (iList X.K tl) := by
  intro pins s σ H R I h
  refine thn (hl pins s σ H _ I h) fun v s1 ⟨x, H1, I1, r1, q1⟩ => ?_
  obtain ⟨a, e, ⟨xs, hq⟩, q⟩ := q1
  subst e
  cases r1
  obtain ⟨its, rv, p, hz⟩ := I1.list hq
  refine wpAny_pyIter_list p.isList ?_
  refine ⟨s1.heap.objs.size, [s1.heap.objs.size], _, _, H1, rfl, I1.kept (t' := s1.toks) fun b o e => Heap.get?_push_of_some _ e, turn_list a _, ⟨_, Heap.get?_push_size _ rfl, rfl, rfl⟩, fun b hb => ?_, q⟩
  have e : b = s1.heap.objs.size := by simpa using hb
  subst e
  exact I1.fpOk (Nat.le_refl _) (I1.hok.fresh (Nat.le_refl _))
theorem range_it {pins : List (Addr × Obj)} {σ : St} {H : Hp} {s : Shared} {R : It → Hp → Prop} {E : Value → Shared → Prop} {lo hi : Int} {t u v : Tok} {tk : Nat} (I : Inv X pins σ H s) (h1 : -(2 ^ 62) ≤ lo) (h2 : lo < 2 ^ 62) (h3 : -(2 ^ 62) ≤ hi) (h4 : hi < 2 ^ 62)
    (q : R (Itr lo (hi - lo).toNat) H) : wpAny (model X.prog X.w) X.A (pyIter (.ref s.heap.objs.size)) (PIE X pins σ tg R) E { s with heap := s.heap.push { cls := .type "range", data := .fields #[.int lo t, .int hi u, .int 1 v] }, toks := tk } := by
  refine wpAny_pyIter_range (IsRange.new ..) (small_one h1 h2 h3 h4) ?_
  have I1 : Inv X pins σ H { s with heap := s.heap.push { cls := .type "range", data := .fields #[.int lo t, .int hi u, .int 1 v] }, toks := tk } := I.kept fun b o e => Heap.get?_push_of_some _ e
  refine ⟨(s.heap.push { cls := .type "range", data := .fields #[.int lo t, .int hi u, .int 1 v] }).objs.size, [(s.heap.push { cls := .type "range", data := .fields #[.int lo t, .int hi u, .int 1 v] }).objs.size], _, _, H, rfl,
    I1.kept (t' := tk) fun b o e => Heap.get?_push_of_some _ e, turn_range _ lo (hi - lo).toNat, ?_, fun b hb => ?_, q⟩
  · have e1 : lo + ((0 : Nat) : Int) * 1 = lo := by simp
    have e2 : (((hi - lo).toNat : Nat) : Int) - ((0 : Nat) : Int) = Builtin.Range.rangeSize lo hi 1 := by rw [rangeSize_one]; split <;> (first|lia|omega)
    show IsRangeIter _ _ (lo + ((0 : Nat) : Int) * 1) ((((hi - lo).toNat : Nat) : Int) - ((0 : Nat) : Int)) 1
    rw [e1, e2]
    exact Heap.get?_push_size _ rfl
  · have e : b = (s.heap.push { cls := .type "range", data := .fields #[.int lo t, .int hi u, .int 1 v] }).objs.size := by simpa using hb
    subst e
    exact I1.fpOk (Nat.le_refl _) (I1.hok.fresh (Nat.le_refl _))
def iRng1 (ta : TA) : TI := fun σ H R => ta σ H fun vs H1 => ∃ j : Int, vs = [.int j] ∧ -(2 ^ 62) ≤ j ∧ j < 2 ^ 62 ∧ R (Itr 0 j.toNat) H1
def iRng2 (ta : TA) : TI := fun σ H R => ta σ H fun vs H1 => ∃ i j : Int, vs = [.int i, .int j] ∧ (-(2 ^ 62) ≤ i ∧ i < 2 ^ 62 ∧ -(2 ^ 62) ≤ j ∧ j < 2 ^ 62) ∧ R (Itr i (j - i).toNat) H1
theorem pi_range1 {a : Expr} {ta : TA} {p pos : Pos} (hg : Gl X "range") (hm : X.mg "range" = none) (ha : PA X [a] ta) (hs : starEach [a] X.env = [(false, eval a X.env)] := by rfl) : PI X tg (.Call (.Name "range" p) [a] [] pos) (iRng1 ta) := by
  intro pins s σ H R I h
  refine Call_ (ld_blt I hg hm boot_range (PyProof.Rows.callWith_type1 (thn (ha pos pins s σ H _ I h) fun us s1 ⟨vs, H1, I1, r1, q1⟩ => ?_) hs rfl))
  obtain ⟨j, e, q1, q2, q⟩ := q1
  subst e
  cases r1 with
  | cons r rr =>
    cases rr
    obtain ⟨t, rfl⟩ := r
    exact call_range_1 (range_it I1 (by (first|lia|omega)) (by (first|lia|omega)) q1 q2 (by simpa using q))
def tFor (wi : TI) (g : TG) (tb : TS) : TS := fun D σ H => wi σ H fun J H1 => ∃ W : Nat → Nat → St → Hp → Prop, (∃ m, W 0 m σ H1) ∧ ∀ i m σ H, W i m σ H →
  (J.stop i H ∧ D.nx σ H) ∨ (J.go i H ∧ ∃ N : St → Hp → Prop, (∀ σ' H', N σ' H' → ∃ m', m' < m ∧ W (i + 1) m' σ' H') ∧ ∀ x H', J.yld i H x H' → g x σ H' fun σ2 H2 => tb { D with nx := N, ct := N, bk := D.nx } σ2 H2)
def pinsAt (fp : List Addr) (h : Heap) : List (Addr × Obj) := fp.filterMap fun b => (h.get? b).map fun o => (b, o)
theorem mem_pinsAt {fp : List Addr} {h : Heap} {b : Addr} {o : Obj} (hb : b ∈ fp) (e : h.get? b = some o) : (b, o) ∈ pinsAt fp h := List.mem_filterMap.mpr ⟨b, hb, by rw [e]; rfl⟩
theorem of_pinsAt {fp : List Addr} {h : Heap} {p : Addr × Obj} (hp : p ∈ pinsAt fp h) : p.1 ∈ fp ∧ h.get? p.1 = some p.2 := by
  obtain ⟨b, hb, e⟩ := List.mem_filterMap.mp hp
  cases q : h.get? b with
  | none => rw [q] at e; cases e
  | some o =>
    rw [q] at e
    have e' : (b, o) = p := Option.some.inj e
    subst e'
    exact ⟨hb, q⟩
theorem Inv.pinned {pins : List (Addr × Obj)} {σ : St} {H : Hp} {s : Shared} {fp : List Addr} (I : Inv X pins σ H s) (hf : ∀ b ∈ fp, FpOk X pins H b) (ho : ∀ b ∈ fp, ∃ o, s.heap.get? b = some o ∧ ∀ v, o.data ≠ .cell v) : Inv X (pins ++ pinsAt fp s.heap) σ H s :=
  I.pins_of fun p hp => (List.mem_append.mp hp).elim (fun z => I.pin p (List.mem_append_right _ z)) fun z => by
    obtain ⟨hb, e⟩ := of_pinsAt z
    obtain ⟨f0, f1, f2, _⟩ := hf p.1 hb
    obtain ⟨o, e', d⟩ := ho p.1 hb
    rw [e] at e'; cases e'
    exact ⟨e, f0, f1, f2, d⟩
theorem Inv.unpinned {pins pl : List (Addr × Obj)} {σ : St} {H : Hp} {s : Shared} (I : Inv X (pins ++ pl) σ H s) : Inv X pins σ H s := I.pins_of fun p hp => I.pin p (List.mem_append_right _ (List.mem_append_left _ hp))
theorem ps_for {iter : Expr} {body : List Stmt} {wi : TI} {g : TG} {tb : TS} {pos : Pos} (hp : PassesOwn (model X.prog X.w) X.A X.env X.xe) (hc : X.calm = true) (hi : PI X tg iter wi) (hg : PG X tg g) (hb : PSs X body tb)
    (hs : ∀ x, foldedSetIterable iter X.env x = pure x := by intro _; rfl) : PS X (.For tg iter body [] pos) (tFor wi g tb) := by
  intro pins s σ H D I h
  refine wpAny_For (thn (hi pins s σ H _ I h) fun v s1 h1 => thn h1 fun itv s2 h2 => ?_) hs
  obtain ⟨it, fp, tn, J, H2, e, I2, T, st2, f2, W, ⟨m0, w0⟩, turn⟩ := h2
  subst e
  have stat : ∀ {H' : Hp}, (∀ b ∈ fp, H' b = none) → ∀ b ∈ fp, FpOk X pins H' b := fun hn b hb => ⟨hn b hb, (f2 b hb).2⟩
  refine codeAny_forLoop_any (fun n s' => ∃ i σ' H', Inv X pins σ' H' s' ∧ tn i s'.heap ∧ (∀ b ∈ fp, H' b = none) ∧ W i n σ' H') ?_ m0 ⟨0, σ, H2, I2, st2, fun b hb => (f2 b hb).1, w0⟩
  rintro n s3 ⟨i, σ3, H3, I3, st3, fr3, w3⟩
  rcases turn i n σ3 H3 w3 with ⟨stop, qn⟩ | ⟨go, N, hN, step⟩
  · refine wpAny_passesOwn hp (thn (T.done X rfl rfl rfl hc i pins s3 σ3 H3 X.xe I3 (stat fr3) st3 stop) fun r s4 ⟨hr, I4⟩ => ?_)
    subst hr
    exact wpAny_execs_nil ⟨σ3, H3, I4, qn⟩
  · refine wpAny_passesOwn hp (thn (T.item X rfl rfl rfl hc i pins s3 σ3 H3 X.xe I3 (stat fr3) st3 go) fun r s4 ⟨u, hr, h4⟩ => ?_)
    subst hr
    refine wpAny_passesOwn hp (thn h4 fun _ s5 ⟨x, H5, I5, r5, y5, st5, fr5⟩ => ?_)
    have I5' := I5.pinned (stat fr5) (T.obj _ _ st5)
    refine wpAny_passesOwn hp (thn (hg _ s5 σ3 H5 x u _ I5' r5 (step x H5 y5)) fun _ s6 ⟨σ6, H6, I6, q6⟩ => ?_)
    refine wpAny_passesOwn hp (thn (hb _ s6 σ6 H6 _ I6 q6) fun f s7 q7 => ?_)
    have again : ∀ {σ7 : St} {H7 : Hp}, Inv X (pins ++ pinsAt fp s5.heap) σ7 H7 s7 → N σ7 H7 → ∃ m, m < n ∧ ∃ i σ' H', Inv X pins σ' H' s7 ∧ tn i s7.heap ∧ (∀ b ∈ fp, H' b = none) ∧ W i m σ' H' := fun {σ7 H7} I7 n7 => by
      obtain ⟨m', hm, w7⟩ := hN σ7 H7 n7
      refine ⟨m', hm, i + 1, σ7, H7, I7.unpinned, T.keep _ _ _ st5 fun b hb o e => (I7.pin (b, o) (List.mem_append_right _ (List.mem_append_right _ (mem_pinsAt hb e)))).1, fun b hb => ?_, w7⟩
      obtain ⟨o, e, d⟩ := T.obj _ _ st5 b hb
      exact (I7.pin (b, o) (List.mem_append_right _ (List.mem_append_right _ (mem_pinsAt hb e)))).2.1
    cases f with
    | next => obtain ⟨σ7, H7, I7, n7⟩ := q7; exact again I7 n7
    | cont => obtain ⟨σ7, H7, I7, n7⟩ := q7; exact again I7 n7
    | brk => obtain ⟨σ7, H7, I7, q7⟩ := q7; exact ⟨σ7, H7, I7.unpinned, q7⟩
    | ret v => obtain ⟨x7, σ7, H7, I7, r7, q7⟩ := q7; exact ⟨x7, σ7, H7, I7.unpinned, r7, q7⟩
end
theorem for_list {K : PySem.W.Frag} {a : Addr} {xs : List V} {g : TG} {tb : TS} {D : Ends} {σ : St} {H : Hp} (Pv : Nat → St → Hp → Prop) (h0 : Pv 0 σ H) (hl : ∀ i σ H, i ≤ xs.length → Pv i σ H → SqL K H a xs)
    (hs : ∀ i x σ H, xs[i]? = some x → Pv i σ H → g x σ H fun σ2 H2 => tb { D with nx := Pv (i + 1), ct := Pv (i + 1), bk := D.nx } σ2 H2) (hd : ∀ σ H, Pv xs.length σ H → D.nx σ H) :
    ∃ W : Nat → Nat → St → Hp → Prop, (∃ m, W 0 m σ H) ∧ ∀ i m σ H, W i m σ H →
      ((Itl K a).stop i H ∧ D.nx σ H) ∨ ((Itl K a).go i H ∧ ∃ N : St → Hp → Prop, (∀ σ' H', N σ' H' → ∃ m', m' < m ∧ W (i + 1) m' σ' H') ∧ ∀ x H', (Itl K a).yld i H x H' → g x σ H' fun σ2 H2 => tb { D with nx := N, ct := N, bk := D.nx } σ2 H2) := by
  refine ⟨fun i m σ H => m = xs.length - i ∧ i ≤ xs.length ∧ Pv i σ H, ⟨xs.length, by simp, Nat.zero_le _, h0⟩, ?_⟩
  rintro i m σ H ⟨rfl, hi, p⟩
  have q := hl i σ H hi p
  by_cases hlt : i < xs.length
  · refine .inr ⟨⟨xs, xs[i], q, by simp [hlt]⟩, Pv (i + 1), fun σ' H' p' => ⟨xs.length - (i + 1), by (first|lia|omega), rfl, hlt, p'⟩, fun x H' y => ?_⟩
    obtain ⟨e, y⟩ := y
    subst e
    exact hs i x σ _ (y xs q) p
  · have e : i = xs.length := by (first|lia|omega)
    subst e
    exact .inl ⟨⟨xs, q, Nat.le_refl _⟩, hd σ H p⟩
theorem for_range {lo : Int} {n : Nat} {g : TG} {tb : TS} {D : Ends} {σ : St} {H : Hp} (Pv : Nat → St → Hp → Prop) (h0 : Pv 0 σ H)
    (hs : ∀ i σ H, i < n → Pv i σ H → g (.int (lo + i)) σ H fun σ2 H2 => tb { D with nx := Pv (i + 1), ct := Pv (i + 1), bk := D.nx } σ2 H2) (hd : ∀ σ H, Pv n σ H → D.nx σ H) :
    ∃ W : Nat → Nat → St → Hp → Prop, (∃ m, W 0 m σ H) ∧ ∀ i m σ H, W i m σ H →
      ((Itr lo n).stop i H ∧ D.nx σ H) ∨ ((Itr lo n).go i H ∧ ∃ N : St → Hp → Prop, (∀ σ' H', N σ' H' → ∃ m', m' < m ∧ W (i + 1) m' σ' H') ∧ ∀ x H', (Itr lo n).yld i H x H' → g x σ H' fun σ2 H2 => tb { D with nx := N, ct := N, bk := D.nx } σ2 H2) := by
  refine ⟨fun i m σ H => m = n - i ∧ i ≤ n ∧ Pv i σ H, ⟨n, by simp, Nat.zero_le _, h0⟩, ?_⟩
  rintro i m σ H ⟨rfl, hi, p⟩
  by_cases hlt : i < n
  · refine .inr ⟨hlt, Pv (i + 1), fun σ' H' p' => ⟨n - (i + 1), by (first|lia|omega), rfl, hlt, p'⟩, fun x H' y => ?_⟩
    obtain ⟨e, y⟩ := y
    subst e y
    exact hs i σ _ hlt p
  · have e : i = n := by (first|lia|omega)
    subst e
    exact .inl ⟨Nat.le_refl _, hd σ H p⟩
end L2
namespace L2
open PySem PySem.Spec PyProof.Rows
abbrev R2 := V → V → Hp → VK → Prop
def OpR (X : Cx) (f : Value → Value → Sem Value) (r : R2) : Prop :=
  ∀ (pins : List (Addr × Obj)) (s : Shared) (σ : St) (H : Hp) (x y : V) (v u : Value) (Q : VK), Inv X pins σ H s → RelV x v → RelV y u → r x y H Q →
    wpAny (model X.prog X.w) X.A (f v u) (EP X pins σ Q) X.xe s
def UnR (X : Cx) (f : Value → Sem Value) (r : V → Hp → VK → Prop) : Prop :=
  ∀ (pins : List (Addr × Obj)) (s : Shared) (σ : St) (H : Hp) (x : V) (v : Value) (Q : VK), Inv X pins σ H s → RelV x v → r x H Q →
    wpAny (model X.prog X.w) X.A (f v) (EP X pins σ Q) X.xe s
def CallR (X : Cx) (f : Value) (r : List V → Hp → VK → Prop) : Prop :=
  ∀ (pins : List (Addr × Obj)) (s : Shared) (σ : St) (H : Hp) (xs : List V) (us : List Value) (Q : VK), Inv X pins σ H s → Vals xs us → r xs H Q →
    wpAny (model X.prog X.w) X.A (call f us) (EP X pins σ Q) X.xe s
def TruR (X : Cx) (r : V → Hp → (Bool → Hp → Prop) → Prop) : Prop :=
  ∀ (pins : List (Addr × Obj)) (s : Shared) (σ : St) (H : Hp) (x : V) (v : Value) (Q : Bool → Hp → Prop), Inv X pins σ H s → RelV x v → r x H Q →
    wpAny (model X.prog X.w) X.A (truthy v) (TP X pins σ Q) X.xe s
def tOp (r : R2) (ta tb : TE) : TE := fun σ H Q => ta σ H fun x H1 => tb σ H1 fun y H2 => r x y H2 Q
def tUn (r : V → Hp → VK → Prop) (ta : TE) : TE := fun σ H Q => ta σ H fun x H1 => r x H1 Q
def rI (C : Int → Int → Prop) (g : Int → Int → V) : R2 := fun x y H Q => ∃ i j, x = .int i ∧ y = .int j ∧ C i j ∧ Q (g i j) H
def rI0 (g : Int → Int → V) : R2 := fun x y H Q => ∃ i j, x = .int i ∧ y = .int j ∧ Q (g i j) H
def rU (g : Int → V) : V → Hp → VK → Prop := fun x H Q => ∃ i, x = .int i ∧ Q (g i) H
section
variable {X : Cx} {a b c : Expr} {ta tb tc : TE} {pos : Pos}
theorem binT (ha : PE X a ta) (hb : PE X b tb) {pins : List (Addr × Obj)} {s : Shared} {σ : St} {H : Hp} {R : V → V → Hp → Prop} (I : Inv X pins σ H s)
    (h : ta σ H fun x H1 => tb σ H1 fun y H2 => R x y H2) {Q : Value → Shared → Prop} {f : Value → Value → Sem Value}
    (hf : ∀ v u s2 x y H2, Inv X pins σ H2 s2 → RelV x v → RelV y u → R x y H2 → wpAny (model X.prog X.w) X.A (f v u) Q X.xe s2) :
    wpAny (model X.prog X.w) X.A (eval a X.env) (fun v s₁ => wpAny (model X.prog X.w) X.A (eval b X.env) (fun u s₂ => wpAny (model X.prog X.w) X.A (f v u) Q X.xe s₂) X.xe s₁) X.xe s := by
  refine thn (ha pins s σ H _ I h) fun v s1 ⟨x, H1, I1, r1, q1⟩ => ?_
  refine thn (hb pins s1 σ H1 _ I1 q1) fun u s2 ⟨y, H2, I2, r2, q2⟩ => ?_
  exact hf v u s2 x y H2 I2 r1 r2 q2
theorem pe_op {op : Operator} {r : R2} (ho : OpR X (binaryOp op) r) (ha : PE X a ta) (hb : PE X b tb) : PE X (.BinOp a op b pos) (tOp r ta tb) := by
  intro pins s σ H Q I h
  exact wpAny_BinOp (binT ha hb I h fun v u s2 x y H2 I2 rx ry q => ho pins s2 σ H2 x y v u Q I2 rx ry q)
theorem pe_un {op : UnaryOp} {r : V → Hp → VK → Prop} (ho : UnR X (unaryOp op) r) (ha : PE X a ta) : PE X (.UnaryOp op a pos) (tUn r ta) := by
  intro pins s σ H Q I h
  exact UnaryOp_ (thn (ha pins s σ H _ I h) fun v s1 ⟨x, H1, I1, r1, q1⟩ => ho pins s1 σ H1 x v Q I1 r1 q1)
theorem opI {f : Value → Value → Sem Value} {C : Int → Int → Prop} {g : Int → Int → Int}
    (rule : ∀ (i j : Int) (t u : Tok) (s : Shared) (Q : Value → Shared → Prop) (E : Value → Shared → Prop), C i j → Q (.int (g i j) s.toks) { s with toks := s.toks + 1 } → wpAny (model X.prog X.w) X.A (f (.int i t) (.int j u)) Q E s) :
    OpR X f (rI C fun i j => .int (g i j)) := by
  intro pins s σ H x y v u Q I rx ry h
  obtain ⟨i, j, rfl, rfl, hc, q⟩ := h
  obtain ⟨t, rfl⟩ := rx
  obtain ⟨t', rfl⟩ := ry
  exact rule i j t t' s _ _ hc ⟨.int (g i j), H, I.tok _, ⟨_, rfl⟩, q⟩
theorem opI0 {f : Value → Value → Sem Value} {g : Int → Int → Int}
    (rule : ∀ (i j : Int) (t u : Tok) (s : Shared) (Q : Value → Shared → Prop) (E : Value → Shared → Prop), Q (.int (g i j) s.toks) { s with toks := s.toks + 1 } → wpAny (model X.prog X.w) X.A (f (.int i t) (.int j u)) Q E s) :
    OpR X f (rI0 fun i j => .int (g i j)) := by
  intro pins s σ H x y v u Q I rx ry h
  obtain ⟨i, j, rfl, rfl, q⟩ := h
  obtain ⟨t, rfl⟩ := rx
  obtain ⟨t', rfl⟩ := ry
  exact rule i j t t' s _ _ ⟨.int (g i j), H, I.tok _, ⟨_, rfl⟩, q⟩
theorem opB0 {f : Value → Value → Sem Value} {g : Int → Int → Bool}
    (rule : ∀ (i j : Int) (t u : Tok) (s : Shared) (Q : Value → Shared → Prop) (E : Value → Shared → Prop), Q (.bool (g i j)) s → wpAny (model X.prog X.w) X.A (f (.int i t) (.int j u)) Q E s) :
    OpR X f (rI0 fun i j => .bl (g i j)) := by
  intro pins s σ H x y v u Q I rx ry h
  obtain ⟨i, j, rfl, rfl, q⟩ := h
  obtain ⟨t, rfl⟩ := rx
  obtain ⟨t', rfl⟩ := ry
  exact rule i j t t' s _ _ ⟨.bl (g i j), H, I, rfl, q⟩
def CDiv (i j : Int) : Prop := 0 < j ∧ j < 1073741824
def CDivN (i j : Int) : Prop := j ≠ 0 ∧ j.natAbs < 1073741824
def CPow (i j : Int) : Prop := 0 ≤ j ∧ j ≤ 1000000 ∧ i.natAbs < 2 ^ 64
def CMul (i j : Int) : Prop := (-(2 ^ 64) < i ∧ i < 2 ^ 64) ∨ (-(2 ^ 64) < j ∧ j < 2 ^ 64)
theorem CMul.ok {i j : Int} (h : CMul i j) : IntMulOk i j := by
  rcases h with ⟨h1, h2⟩ | ⟨h1, h2⟩
  · exact .of_left (intBits_le_64 h1 h2)
  · exact .of_right (intBits_le_64 h1 h2)
theorem op_add : OpR X (binaryOp .Add) (rI0 fun i j => .int (i + j)) := opI0 fun _ _ _ _ _ _ _ q => add_int q
theorem op_sub : OpR X (binaryOp .Sub) (rI0 fun i j => .int (i - j)) := opI0 fun _ _ _ _ _ _ _ q => sub_int q
theorem op_mod : OpR X (binaryOp .Mod) (rI (fun _ j => 0 < j) fun i j => .int (i % j)) := opI fun i j _ _ _ _ _ hc q => by
  have h1 : (0 : Int) < j := hc
  exact mod_int' (by (first|lia|omega)) (by rw [Int.fmod_eq_emod_of_nonneg i (by (first|lia|omega))]; exact q)
theorem op_pow : OpR X (binaryOp .Pow) (rI CPow fun i j => .int (i ^ j.toNat)) := opI fun _ _ _ _ _ _ _ hc q => pow_int_small hc.1 hc.2.1 hc.2.2 q
theorem unI {f : Value → Sem Value} {g : Int → Int}
    (rule : ∀ (i : Int) (t : Tok) (s : Shared) (Q : Value → Shared → Prop) (E : Value → Shared → Prop), Q (.int (g i) s.toks) { s with toks := s.toks + 1 } → wpAny (model X.prog X.w) X.A (f (.int i t)) Q E s) :
    UnR X f (rU fun i => .int (g i)) := by
  intro pins s σ H x v Q I rx h
  obtain ⟨i, rfl, q⟩ := h
  obtain ⟨t, rfl⟩ := rx
  exact rule i t s _ _ ⟨.int (g i), H, I.tok _, ⟨_, rfl⟩, q⟩
theorem un_neg : UnR X (unaryOp .USub) (rU fun i => .int (-i)) := unI fun _ _ _ _ _ q => neg_int q
end
def scal : V → V → Bool
  | .non, .non => true | .non, .int _ => true | .int _, .non => true | .non, .bl _ => true | .bl _, .non => true | .non, .str _ => true | .str _, .non => true
  | .int _, .int _ => true | .bl _, .bl _ => true | .str _, .str _ => true | .byt _, .byt _ => true
  | .int _, .str _ => true | .str _, .int _ => true | .bl _, .str _ => true | .str _, .bl _ => true
  | _, _ => false
def rEq : R2 := fun x y H Q => scal x y = true ∧ Q (.bl (decide (x = y))) H
def rNe : R2 := fun x y H Q => scal x y = true ∧ Q (.bl (!decide (x = y))) H
theorem dec_int {i j : Int} : decide (V.int i = V.int j) = (i == j) := by
  rw [Bool.eq_iff_iff]
  simp
theorem dec_bl {i j : Bool} : decide (V.bl i = V.bl j) = (i == j) := by
  rw [Bool.eq_iff_iff]
  simp
theorem dec_str {i j : Str} : decide (V.str i = V.str j) = (i == j) := by
  rw [Bool.eq_iff_iff]
  simp
theorem dec_byt {i j : Array UInt8} : decide (V.byt i = V.byt j) = (i.toList == j.toList) := by
  rw [Bool.eq_iff_iff]
  cases i
  cases j
  simp
section
variable {X : Cx} {a b c : Expr} {ta tb tc : TE} {pos : Pos}
theorem fin_bl {pins : List (Addr × Obj)} {σ : St} {H : Hp} {s : Shared} {Q : VK} {k k' : Bool} (I : Inv X pins σ H s) (q : Q (.bl k) H) (e : k = k') : EP X pins σ Q (.bool k') s := by
  subst e
  exact ⟨.bl k, H, I, rfl, q⟩
theorem op_eq : OpR X (compareOp .Eq) rEq := by
  intro pins s σ H x y v u Q I rx ry h
  obtain ⟨hs, q⟩ := h
  cases x with
  | non =>
    cases rx
    cases y with
    | non => cases ry; exact PySem.EqNone.eq_none_none (fin_bl I q (by simp))
    | bl j => cases ry; exact PySem.EqNone.eq_none_bool (fin_bl I q (by simp))
    | int j => obtain ⟨t', rfl⟩ := ry; exact PySem.EqNone.eq_none_int (fin_bl I q (by simp))
    | str j => obtain ⟨t', rfl⟩ := ry; exact PySem.EqNone.eq_none_str (fin_bl I q (by simp))
    | _ => exact absurd (show false = true from hs) Bool.false_ne_true
  | bl i =>
    cases rx
    cases y with
    | non => cases ry; exact PySem.EqNone.eq_bool_none (fin_bl I q (by simp))
    | bl j => cases ry; exact eq_bool (fin_bl I q dec_bl)
    | str j => obtain ⟨t', rfl⟩ := ry; exact PySem.EqMixed.eq_bool_str (fin_bl I q (by simp))
    | _ => exact absurd (show false = true from hs) Bool.false_ne_true
  | int i =>
    obtain ⟨t, rfl⟩ := rx
    cases y with
    | non => cases ry; exact PySem.EqNone.eq_int_none (fin_bl I q (by simp))
    | int j => obtain ⟨t', rfl⟩ := ry; exact eq_int (fin_bl I q dec_int)
    | str j => obtain ⟨t', rfl⟩ := ry; exact PySem.EqMixed.eq_int_str (fin_bl I q (by simp))
    | _ => exact absurd (show false = true from hs) Bool.false_ne_true
  | str i =>
    obtain ⟨t, rfl⟩ := rx
    cases y with
    | non => cases ry; exact PySem.EqNone.eq_str_none (fin_bl I q (by simp))
    | bl j => cases ry; exact PySem.EqMixed.eq_str_bool (fin_bl I q (by simp))
    | int j => obtain ⟨t', rfl⟩ := ry; exact PySem.EqMixed.eq_str_int (fin_bl I q (by simp))
    | str j => obtain ⟨t', rfl⟩ := ry; exact eq_str (fin_bl I q dec_str)
    | _ => exact absurd (show false = true from hs) Bool.false_ne_true
  | byt i =>
    obtain ⟨t, rfl⟩ := rx
    cases y with
    | byt j => obtain ⟨t', rfl⟩ := ry; exact PySem.W.eq_bytes (fin_bl I q dec_byt)
    | _ => exact absurd (show false = true from hs) Bool.false_ne_true
  | _ => cases y <;> exact absurd (show false = true from hs) Bool.false_ne_true
theorem op_ne : OpR X (compareOp .NotEq) rNe := by
  intro pins s σ H x y v u Q I rx ry h
  obtain ⟨hs, q⟩ := h
  cases x with
  | non =>
    cases rx
    cases y with
    | non => cases ry; exact PySem.EqNone.ne_none_none (fin_bl I q (by simp))
    | bl j => cases ry; exact PySem.EqNone.ne_none_bool (fin_bl I q (by simp))
    | int j => obtain ⟨t', rfl⟩ := ry; exact PySem.EqNone.ne_none_int (fin_bl I q (by simp))
    | str j => obtain ⟨t', rfl⟩ := ry; exact PySem.EqNone.ne_none_str (fin_bl I q (by simp))
    | _ => exact absurd (show false = true from hs) Bool.false_ne_true
  | bl i =>
    cases rx
    cases y with
    | non => cases ry; exact PySem.EqNone.ne_bool_none (fin_bl I q (by simp))
    | bl j => cases ry; exact ne_bool (fin_bl I q (congrArg not dec_bl))
    | str j => obtain ⟨t', rfl⟩ := ry; exact PySem.EqMixed.ne_bool_str (fin_bl I q (by simp))
    | _ => exact absurd (show false = true from hs) Bool.false_ne_true
  | int i =>
    obtain ⟨t, rfl⟩ := rx
    cases y with
    | non => cases ry; exact PySem.EqNone.ne_int_none (fin_bl I q (by simp))
    | int j => obtain ⟨t', rfl⟩ := ry; exact ne_int (fin_bl I q (congrArg not dec_int))
    | str j => obtain ⟨t', rfl⟩ := ry; exact PySem.EqMixed.ne_int_str (fin_bl I q (by simp))
    | _ => exact absurd (show false = true from hs) Bool.false_ne_true
  | str i =>
    obtain ⟨t, rfl⟩ := rx
    cases y with
    | non => cases ry; exact PySem.EqNone.ne_str_none (fin_bl I q (by simp))
    | bl j => cases ry; exact PySem.EqMixed.ne_str_bool (fin_bl I q (by simp))
    | int j => obtain ⟨t', rfl⟩ := ry; exact PySem.EqMixed.ne_str_int (fin_bl I q (by simp))
    | str j => obtain ⟨t', rfl⟩ := ry; exact ne_str (fin_bl I q (congrArg not dec_str))
    | _ => exact absurd (show false = true from hs) Bool.false_ne_true
  | byt i =>
    obtain ⟨t, rfl⟩ := rx
    cases y with
    | byt j => obtain ⟨t', rfl⟩ := ry; exact PySem.W.ne_bytes (fin_bl I q (congrArg not dec_byt))
    | _ => exact absurd (show false = true from hs) Bool.false_ne_true
  | _ => cases y <;> exact absurd (show false = true from hs) Bool.false_ne_true
theorem op_lt : OpR X (compareOp .Lt) (rI0 fun i j => .bl (decide (i < j))) := opB0 fun _ _ _ _ _ _ _ q => lt_int q
theorem op_le : OpR X (compareOp .LtE) (rI0 fun i j => .bl (decide (i ≤ j))) := opB0 fun _ _ _ _ _ _ _ q => le_int q
theorem op_gt : OpR X (compareOp .Gt) (rI0 fun i j => .bl (decide (j < i))) := opB0 fun _ _ _ _ _ _ _ q => gt_int q
theorem op_ge : OpR X (compareOp .GtE) (rI0 fun i j => .bl (decide (j ≤ i))) := opB0 fun _ _ _ _ _ _ _ q => ge_int q
theorem op_notN : OpR X (compareOp .IsNot) (fun x y H Q => y = .non ∧ Q (.bl (!decide (x = .non))) H) := by
  intro pins s σ H x y v u Q I rx ry h
  obtain ⟨rfl, q⟩ := h
  cases ry
  refine isnot_none_gen (fin_bl I q ?_)
  cases x <;> first
    | (cases rx; rfl)
    | (obtain ⟨t, rfl⟩ := rx; rfl)
def isObj : HO → Bool
  | .lst _ => true
  | .ins _ _ _ => true
  | _ => false
theorem nomark (b : Expr) {op : CmpOp} (h : op ≠ .In := by decide) (h2 : op ≠ .NotIn := by decide) : behindInMarks op b = false := by
  have e1 : (op == CmpOp.In) = false := by cases op <;> first | rfl | exact absurd rfl h
  have e2 : (op == CmpOp.NotIn) = false := by cases op <;> first | rfl | exact absurd rfl h2
  cases b <;> simp [behindInMarks, e1, e2]
theorem pe_cmpR {op : CmpOp} {r : R2} (ho : OpR X (compareOp op) r) (ha : PE X a ta) (hb : PE X b tb) (hm : behindInMarks op b = false) : PE X (.Compare a [op] [b] pos) (tOp r ta tb) := by
  intro pins s σ H Q I h
  exact wpAny_Compare1 (binT ha hb I h fun v u s2 x y H2 I2 rx ry q => ho pins s2 σ H2 x y v u Q I2 rx ry q) hm
def tTest (t : TE) : TT := fun σ H Q => t σ H fun x H' => ∃ k, x = .bl k ∧ Q k H'
theorem pt_cmpR {op : CmpOp} {r : R2} (ho : OpR X (compareOp op) r) (ha : PE X a ta) (hb : PE X b tb) (hm : behindInMarks op b = false) : PT X (.Compare a [op] [b] pos) (tTest (tOp r ta tb)) := by
  intro pins s σ H Q I h
  refine wpAny_isTrue_Compare1 (thn (ha pins s σ H _ I h) fun v s1 ⟨x, H1, I1, r1, q1⟩ => thn (hb pins s1 σ H1 _ I1 q1) fun u s2 ⟨y, H2, I2, r2, q2⟩ =>
    thn (ho pins s2 σ H2 x y v u _ I2 r1 r2 q2) fun c s3 ⟨z, H3, I3, r3, k, e, q3⟩ => ?_) hm
  subst e
  cases r3
  exact wpAny_truthy_bool ⟨H3, I3, q3⟩
def tChain (r r' : R2) (ta tb tc : TE) : TE := fun σ H Q => ta σ H fun x H1 => tb σ H1 fun y H2 => r x y H2 fun z H3 => ∃ k, z = .bl k ∧
  (if k = true then tc σ H3 fun w' H4 => r' y w' H4 Q else Q (.bl false) H3)
theorem pe_chain {op op' : CmpOp} {r r' : R2} (ho : OpR X (compareOp op) r) (ho' : OpR X (compareOp op') r') (ha : PE X a ta) (hb : PE X b tb) (hc : PE X c tc)
    (hm : lastMarks [op, op'] [b, c] = false := by with_unfolding_all rfl) : PE X (.Compare a [op, op'] [b, c] pos) (tChain r r' ta tb tc) := by
  intro pins s σ H Q I h
  refine Compare_chain (thn (ha pins s σ H _ I h) fun v s1 ⟨x, H1, I1, r1, q1⟩ => chain_link (thn (hb pins s1 σ H1 _ I1 q1) fun u s2 ⟨y, H2, I2, r2, q2⟩ =>
    thn (ho pins s2 σ H2 x y v u _ I2 r1 r2 q2) fun d s3 ⟨z, H3, I3, r3, k, e, q3⟩ => ?_)) hm
  subst e
  cases r3
  refine wpAny_truthy_bool ?_
  cases k with
  | false => exact ite_ff ⟨.bl false, H3, I3, rfl, q3⟩
  | true => exact ite_tt (chain_last (thn (hc pins s3 σ H3 _ I3 q3) fun w' s4 ⟨z', H4, I4, r4, q4⟩ => ho' pins s4 σ H4 y z' u w' Q I4 r2 r4 q4))
theorem pt_chain {op op' : CmpOp} {r r' : R2} (ho : OpR X (compareOp op) r) (ho' : OpR X (compareOp op') r') (ha : PE X a ta) (hb : PE X b tb) (hc : PE X c tc)
    (hm : lastMarks [op, op'] [b, c] = false := by with_unfolding_all rfl) : PT X (.Compare a [op, op'] [b, c] pos) (tTest (tChain r r' ta tb tc)) := by
  intro pins s σ H Q I h
  refine isTrue_chain (thn (ha pins s σ H _ I h) fun v s1 ⟨x, H1, I1, r1, q1⟩ => test_link (thn (hb pins s1 σ H1 _ I1 q1) fun u s2 ⟨y, H2, I2, r2, q2⟩ =>
    thn (ho pins s2 σ H2 x y v u _ I2 r1 r2 q2) fun d s3 ⟨z, H3, I3, r3, k, e, q3⟩ => ?_)) hm
  subst e
  cases r3
  refine wpAny_truthy_bool ?_
  cases k with
  | false =>
    obtain ⟨k', e', q'⟩ := q3
    cases e'
    exact ite_ff ⟨H3, I3, q'⟩
  | true =>
    refine ite_tt (test_last (thn (hc pins s3 σ H3 _ I3 q3) fun w' s4 ⟨z', H4, I4, r4, q4⟩ => thn (ho' pins s4 σ H4 y z' u w' _ I4 r2 r4 q4) fun d' s5 ⟨z2, H5, I5, r5, k2, e2, q5⟩ => ?_))
    subst e2
    cases r5
    exact wpAny_truthy_bool ⟨H5, I5, q5⟩
def TruV (K : PySem.W.Frag) (x : V) (H : Hp) (k : Bool) : Prop :=
  match x with
  | .non => k = false
  | .bl b => k = b
  | .int i => k = (i != 0)
  | .str y => y.length ≤ sizeLine ∧ k = ((y.length : Int) != 0)
  | .byt y => y.size ≤ sizeLine ∧ k = ((y.size : Int) != 0)
  | .ref p => (∃ xs, SqL K H p xs ∧ k = !xs.isEmpty) ∨ (∃ xs, SqT K H p xs ∧ k = !xs.isEmpty) ∨ ∃ kvs, H p = some (.dK kvs) ∧ k = !kvs.isEmpty
  | _ => False
theorem line63 : (sizeLine : Nat) < 2 ^ 63 := by rw [sizeLine_eq]; decide
def PlainIxT (b : Expr) : Prop := ∀ o i, subscripted b false o i = operate [o, i] (getItem o i)
theorem vals1 {x : V} {us : List Value} (r : Vals [x] us) : ∃ u, us = [u] ∧ RelV x u := by
  cases r with
  | cons r1 r2 => cases r2; exact ⟨_, rfl, r1⟩
theorem vals2 {x y : V} {us : List Value} (r : Vals [x, y] us) : ∃ u w', us = [u, w'] ∧ RelV x u ∧ RelV y w' := by
  cases r with
  | cons r1 r2 =>
    cases r2 with
    | cons r3 r4 => cases r4; exact ⟨_, _, rfl, r1, r3⟩
theorem call_int1 : CallR X (.type "int") (fun xs H Q => (∃ i, xs = [.int i] ∧ Q (.int i) H) ∨ ∃ k, xs = [.bl k] ∧ Q (.int (if k then 1 else 0)) H) := by
  intro pins s σ H xs us Q I r h
  rcases h with ⟨i, rfl, q⟩ | ⟨k, rfl, q⟩
  · obtain ⟨u, rfl, t, rfl⟩ := vals1 r
    exact call_int_int ⟨.int i, H, I, ⟨_, rfl⟩, q⟩
  · obtain ⟨u, rfl, r1⟩ := vals1 r
    cases r1
    exact call_int_bool ⟨.int (if k then 1 else 0), H, I.tok _, ⟨_, rfl⟩, q⟩
def LenV (K : PySem.W.Frag) (x : V) (H : Hp) (n : Nat) : Prop :=
  match x with
  | .str y => y.length ≤ sizeLine ∧ n = y.length
  | .byt y => y.size ≤ sizeLine ∧ n = y.size
  | .ref p => (∃ xs, SqL K H p xs ∧ n = xs.length) ∨ ∃ xs, SqT K H p xs ∧ n = xs.length
  | _ => False
end
end L2
namespace L2
open PySem PySem.Spec PyProof.Rows
structure ObjM (h : Heap) (x dx C : Addr) (mA : Str → Option Value) : Prop where
  obj : h.get? x = some (PySem.W.instObj C dx)
  ns : h.Ns1 dx mA
  ne : dx ≠ x
theorem lookIn_ns {h : Heap} {dx : Addr} {mA : Str → Option Value} (n : h.Ns1 dx mA) : ∃ od, h.get? dx = some od ∧ ∀ name, PySem.W.lookIn name od = some (mA name) := by
  obtain ⟨o, es, ep, ho, hd, hk, _, hm⟩ := n
  refine ⟨o, ho, fun name => ?_⟩
  have e := hm name
  unfold nsFind findBy at e
  rw [← Array.find?_toList] at e
  unfold PySem.W.lookIn
  rw [hd]
  dsimp only
  split
  · rename_i y q
    rw [q] at e
    exact congrArg some e
  · rename_i q
    rw [q] at e
    have a : es.toList.any (·.refKey) = false := by
      rw [List.any_eq_false]
      intro y hy
      obtain ⟨z, t, hkey⟩ := hk y (Array.mem_toList_iff.mp hy)
      simp [DictEntry.refKey, hkey]
    have a' : ¬ es.toList.any (·.refKey) = true := by rw [a]; exact Bool.false_ne_true
    rw [if_neg a']
    exact congrArg some e
theorem ObjM.look {h : Heap} {x dx C : Addr} {mA : Str → Option Value} (I : ObjM h x dx C mA) : ∃ od, PySem.W.InstAt h x (PySem.W.instObj C dx) C (some od) ∧ ∀ name, PySem.W.lookIn name od = some (mA name) :=
  let ⟨od, ho, hl⟩ := lookIn_ns I.ns
  ⟨od, ⟨I.obj, rfl, rfl, ho⟩, hl⟩
section
variable {prog : Program} {w : World} {A : Around} {E : Value → Shared → Prop} {s : Shared} {K : PySem.W.Frag} {x dx C f : Addr} {mA : Str → Option Value} {name : Str} {v : Value}
end
def putF (f : Str) (v : V) : List (Str × V) → List (Str × V)
  | [] => [(f, v)]
  | (g, x) :: r => if g = f then (g, v) :: r else (g, x) :: putF f v r
section
variable {P : Program} {w : World} {H H' : Hp} {h h' : Heap} {a C dx : Addr} {fs fs' : List (Str × V)}
theorem ins_get (hok : HOk P w H h) (e : H a = some (.ins C dx fs)) : ∃ mA, ObjM h a dx C mA ∧ (∀ f, RelO (fs.lookup f) (mA f)) ∧ PySem.Within mA (fs.map (·.1)) ∧ fs.length ≤ 1000 ∧ H dx = some (.own a) := by
  obtain ⟨d, z, ne, ob, mA, n, r, q⟩ := (show ObjOk P w H h a (.ins C dx fs) from hok a _ e)
  exact ⟨mA, ⟨ob, n, ne⟩, r, q, z, d⟩
end
structure Cls (K : PySem.W.Frag) (C : Addr) : Prop where
  pg : PySem.W.plainGet K C Str.empty = true
  hd : PySem.W.hasDictIn K C = true
  po : PySem.W.plainOver K C = true
  sa : PySem.W.findIn K (.ref C) "__setattr__" = some (some (.builtin "object.__setattr__"))
theorem Cls.get {K : PySem.W.Frag} {C : Addr} (c : Cls K C) (f : Str) : PySem.W.plainGet K C f = true := c.pg
def NoAttr (K : PySem.W.Frag) (C : Addr) (f : Str) : Prop := PySem.W.findIn K (.ref C) f = some none
structure Con (K : PySem.W.Frag) (C : Addr) (f : Str) (v : V) (u : Value) : Prop where
  at_ : PySem.W.findIn K (.ref C) f = some (some u)
  rel : RelV v u
  get : PySem.W.specialIn K u "__get__" = some none
  cp : PySem.W.copiedNames.contains f = false
structure Meth (K : PySem.W.Frag) (C : Addr) (m : Str) (f : Addr) : Prop where
  at_ : PySem.W.findIn K (.ref C) m = some (some (.ref f))
  fn : PySem.W.isFn K (.ref f) = true
  kp : PySem.W.keepIn K (.ref f) = true
section
variable {X : Cx} {pins : List (Addr × Obj)} {σ : St} {H : Hp} {s : Shared} {a C dx : Addr} {fs : List (Str × V)} {f : Str} {v : V} {A : Around} {E : Value → Shared → Prop}
end
def tFld (K : PySem.W.Frag) (ta : TE) (f : Str) : TE := fun σ H Q => ta σ H fun x H1 => ∃ a C dx fs v, x = .ref a ∧ H1 a = some (.ins C dx fs) ∧ Cls K C ∧ NoAttr K C f ∧ fs.lookup f = some v ∧ Q v H1
def tCon (K : PySem.W.Frag) (ta : TE) (f : Str) : TE := fun σ H Q => ta σ H fun x H1 => ∃ a C dx fs v u, x = .ref a ∧ H1 a = some (.ins C dx fs) ∧ Cls K C ∧ Con K C f v u ∧ fs.lookup f = none ∧ Q v H1
def sFld (K : PySem.W.Frag) (ta tv : TE) (f : Str) : TS := fun D σ H => tv σ H fun y H1 => ta σ H1 fun x H2 => ∃ a C dx fs, x = .ref a ∧ H2 a = some (.ins C dx fs) ∧ Cls K C ∧ NoAttr K C f ∧ fs.length < 1000 ∧
  D.nx σ (upd H2 a (.ins C dx (putF f y fs)))
def InOp (X : Cx) (op : Operator) (rd : V → V → Hp → VK → Prop) : Prop :=
  ∀ (pins : List (Addr × Obj)) (s : Shared) (σ : St) (H : Hp) (x y : V) (u v : Value) (Q : VK), Inv X pins σ H s → RelV x u → RelV y v → rd x y H Q → wpAny (model X.prog X.w) X.A (inplaceOp op u v) (EP X pins σ Q) X.xe s
def sFldAug (K : PySem.W.Frag) (ta tv : TE) (rd : V → V → Hp → VK → Prop) (f : Str) : TS := fun D σ H => ta σ H fun x H1 => ∃ a C dx fs v, x = .ref a ∧ H1 a = some (.ins C dx fs) ∧ Cls K C ∧ NoAttr K C f ∧ fs.lookup f = some v ∧
  tv σ H1 fun y H2 => rd v y H2 fun z H3 => ∃ dx' fs', H3 a = some (.ins C dx' fs') ∧ fs'.length < 1000 ∧ D.nx σ (upd H3 a (.ins C dx' (putF f z fs')))
section
variable {X : Cx} {o e value : Expr} {f : Str} {pos pos' tpos : Pos} {ta tv : TE}
def rAdd : V → V → Hp → VK → Prop := fun x y H Q => ∃ i j, x = .int i ∧ y = .int j ∧ Q (.int (i + j)) H
def rSub : V → V → Hp → VK → Prop := fun x y H Q => ∃ i j, x = .int i ∧ y = .int j ∧ Q (.int (i - j)) H
end
section
variable {X : Cx} {pins : List (Addr × Obj)} {σ : St} {H : Hp} {s : Shared} {A : Around} {E : Value → Shared → Prop} {Q : Value → Shared → Prop} {c : Value} {b : Bool}
inductive TyOf (K : PySem.W.Frag) (H : Hp) : V → Value → Prop where
  | non : TyOf K H .non (.type "NoneType")
  | bl (x : Bool) : TyOf K H (.bl x) (.type "bool")
  | int (i : Int) : TyOf K H (.int i) (.type "int")
  | str (x : Str) : TyOf K H (.str x) (.type "str")
  | flt (x : UInt64) : TyOf K H (.flt x) (.type "float")
  | lst {a : Addr} {xs : List V} (e : H a = some (.lst xs)) : TyOf K H (.ref a) (.type "list")
  | frz {a : Addr} {o : Obj} {xs : List V} (e : H a = some (.frz o (.lst xs))) : TyOf K H (.ref a) (.type "list")
  | tup {a : Addr} {xs : List V} (e : H a = some (.tup xs)) : TyOf K H (.ref a) (.type "tuple")
  | dK {a : Addr} {kvs : List (Key × V)} (e : H a = some (.dK kvs)) : TyOf K H (.ref a) (.type "dict")
  | dT {a : Addr} {kvs : List (List Key × V)} (e : H a = some (.dT kvs)) : TyOf K H (.ref a) (.type "dict")
  | ins {a C dx : Addr} {fs : List (Str × V)} (e : H a = some (.ins C dx fs)) (cl : Cls K C) (ha : PySem.W.findIn K (.ref C) "__class__" = some (some (.builtin "object.__class__")))
      (hn : PySem.W.specialIn K (.builtin "object.__class__") "__get__" = some (some (.builtin "getset_descriptor.__get__"))) (htk : PySem.W.takesIn K (.builtin "object.__class__") = some true)
      (hm : PySem.W.mroIn K C (.type "object") = some true) : TyOf K H (.ref a) (.ref C)
theorem isinst_ok {x : V} {u t : Value} (I : Inv X pins σ H s) (rx : RelV x u) (ty : TyOf X.K H x t) (e : PySem.W.kitOne X.K t c = some b) (h : ∀ tk, Q (.bool b) { s with toks := tk }) :
    wpAny (model X.prog X.w) A (call (.builtin "isinstance") [u, c]) Q E s := by
  cases ty with
  | non => cases (show u = Value.none from rx); exact PySem.W.kia_one PySem.W.kitx_none I.kIn True.intro e (fun z => nomatch z) h
  | bl y => cases (show u = Value.bool y from rx); exact PySem.W.kia_one PySem.W.kitx_bool I.kIn True.intro e (fun z => nomatch z) h
  | int i => obtain ⟨t, q⟩ := (show ∃ t, u = Value.int i t from rx); cases q; exact PySem.W.kia_one PySem.W.kitx_int I.kIn True.intro e (fun z => nomatch z) h
  | str y => obtain ⟨t, q⟩ := (show ∃ t, u = Value.str y t from rx); cases q; exact PySem.W.kia_one PySem.W.kitx_str I.kIn True.intro e (fun z => nomatch z) h
  | flt y => obtain ⟨t, q⟩ := (show ∃ t, u = Value.float y t from rx); cases q; exact PySem.W.kia_one PySem.W.kitx_float I.kIn True.intro e (fun z => nomatch z) h
  | @lst a xs ea =>
    cases (show u = Value.ref a from rx)
    obtain ⟨_, _, n, _, h1⟩ := (show ObjOk X.prog X.w H s.heap a (.lst xs) from I.hok a _ ea)
    exact PySem.W.kia_one PySem.W.kitx_list I.kIn ⟨_, h1, rfl⟩ e (fun z => nomatch z) h
  | @frz a ob xs ea =>
    cases (show u = Value.ref a from rx)
    obtain ⟨_, _, _, n, _, h1⟩ := (show ObjOk X.prog X.w H s.heap a (.frz ob (.lst xs)) from I.hok a _ ea)
    exact PySem.W.kia_one PySem.W.kitx_list I.kIn ⟨_, h1, rfl⟩ e (fun z => nomatch z) h
  | @tup a xs ea =>
    cases (show u = Value.ref a from rx)
    obtain ⟨_, _, _, p⟩ := (show ObjOk X.prog X.w H s.heap a (.tup xs) from I.hok a _ ea)
    obtain ⟨o, h1, h2, _⟩ := p
    exact PySem.W.kia_one PySem.W.kitx_tuple I.kIn ⟨o, h1, h2⟩ e (fun z => nomatch z) h
  | @dK a kvs ea =>
    cases (show u = Value.ref a from rx)
    obtain ⟨_, _, vs, _, p⟩ := (show ObjOk X.prog X.w H s.heap a (.dK kvs) from I.hok a _ ea)
    obtain ⟨o, es, ep, h1, h2, _⟩ := p
    exact PySem.W.kia_one PySem.W.kitx_dict I.kIn ⟨o, h1, h2.1⟩ e (fun z => nomatch z) h
  | @dT a kvs ea =>
    cases (show u = Value.ref a from rx)
    obtain ⟨_, _, xs, _, o, es, ep, h1, h2, _⟩ := (show ObjOk X.prog X.w H s.heap a (.dT kvs) from I.hok a _ ea)
    exact PySem.W.kia_one PySem.W.kitx_dict I.kIn ⟨o, h1, h2.1⟩ e (fun z => nomatch z) h
  | @ins a C dx fs ea cl ha hn htk hm =>
    cases (show u = Value.ref a from rx)
    obtain ⟨mA, O, _⟩ := ins_get I.hok ea
    obtain ⟨od, J, _⟩ := O.look
    exact PySem.W.kia_one (PySem.W.kitx_own (cl.get _) cl.hd ha hn htk hm) I.kIn J e (fun z => nomatch z) h
end
end L2
namespace L2
open PySem PySem.Spec PyProof.Rows
structure Room (k : Nat) (A : Around) : Prop where
  hd : A.handled = none
  dp : A.depth + 3 * k + 5 < recursionLimit
  un : A.units + 16 * k + 200 < cLine
theorem Room.mono {j k : Nat} {A : Around} (r : Room k A) (h : j ≤ k) : Room j A := ⟨r.hd, by have := r.dp; (first|lia|omega), by have := r.un; (first|lia|omega)⟩
theorem Room.deeper {k : Nat} {A : Around} (r : Room (k + 1) A) (env : Env) : Room k (A.deeper env) :=
  ⟨r.hd, by have := r.dp; show A.depth + 1 + 3 * k + 5 < _; (first|lia|omega), by have := r.un; show A.units + 3 + 16 * k + 200 < _; (first|lia|omega)⟩
theorem Room.depth {k : Nat} {A : Around} (r : Room k A) : A.depth < recursionLimit := by have := r.dp; (first|lia|omega)
theorem Room.units {k : Nat} {A : Around} (r : Room k A) : A.units + 64 < cLine := by have := r.un; (first|lia|omega)
def tNil : TA := fun _ H Q => Q [] H
def tCons (ta : TE) (tr : TA) : TA := fun σ H Q => ta σ H fun x H1 => tr σ H1 fun xs H2 => Q (x :: xs) H2
section
variable {X : Cx} {e : Expr} {es : List Expr} {te : TE} {t : TA} {pos : Pos}
theorem pa_nil : PA X [] tNil := fun _ _ _ _ H Q I h => Calls.spliced_nil ⟨[], H, I, .nil, h⟩
theorem pa_cons (ha : PE X e te) (hr : PA X es t) (hs : starEach (e :: es) X.env = (false, eval e X.env) :: starEach es X.env := by rfl) : PA X (e :: es) (tCons te t) := by
  intro pos pins s σ H Q I h
  rw [hs]
  show wpAny _ _ (spliced ((false, eval e X.env) :: backTo pos (starEach es X.env))) _ _ s
  refine Calls.spliced_cons (thn (ha pins s σ H _ I h) fun u s1 ⟨x, H1, I1, r1, q1⟩ => ?_)
  exact thn (hr pos pins s1 σ H1 _ I1 q1) fun us s2 ⟨xs, H2, I2, r2, q2⟩ => ⟨x :: xs, H2, I2, .cons r1 r2, q2⟩
def tTup (t : TA) : TE := fun σ H Q => t σ H fun xs H1 => xs.length ≤ sizeLine ∧ ∀ p, H1 p = none → Q (.ref p) (upd H1 p (.tup xs))
def tLst (t : TA) : TE := fun σ H Q => t σ H fun xs H1 => xs.length ≤ sizeLine ∧ ∀ p, H1 p = none → Q (.ref p) (upd H1 p (.lst xs))
theorem pe_tup {x1} (h : PA X es t) : PE X (.Tuple es x1 pos) (tTup t) := by
  intro pins s σ H Q I hq
  refine wpAny_Tuple_spliced (thn (h pos pins s σ H _ I hq) fun us s1 ⟨xs, H1, I1, r, z, q⟩ => ⟨by rw [← r.length]; exact z, ?_⟩)
  have hf : H1 s1.heap.objs.size = none := I1.hok.fresh (Nat.le_refl _)
  refine ⟨.ref s1.heap.objs.size, upd H1 s1.heap.objs.size (.tup xs), I1.laid (t' := s1.toks) (fun b u e => Heap.get?_push_of_some _ e) (Nat.le_refl _) ?_, rfl, q _ hf⟩
  exact ⟨z, us, r, ⟨_, Heap.get?_push_size _ rfl, rfl, _, rfl⟩⟩
theorem pe_lst (h : PA X es t) : PE X (.List es pos) (tLst t) := by
  intro pins s σ H Q I hq
  refine wpAny_List_spliced (thn (h pos pins s σ H _ I hq) fun us s1 ⟨xs, H1, I1, r, z, q⟩ => ⟨by rw [← r.length]; exact z, ?_⟩)
  have hf : H1 s1.heap.objs.size = none := I1.hok.fresh (Nat.le_refl _)
  refine ⟨.ref s1.heap.objs.size, upd H1 s1.heap.objs.size (.lst xs), I1.laid (t' := s1.toks) (fun b u e => Heap.get?_push_of_some _ e) (Nat.le_refl _) ?_, rfl, q _ hf⟩
  exact ⟨z, us, 0, r, Heap.get?_push_size _ rfl⟩
end
abbrev Sp := List V → Hp → VK → XK → Prop
abbrev CXT := List Env → Hp → Shared → XK → Value → Shared → Prop
structure Env0 (P : Program) (w : World) (K : PySem.W.Frag) (mg : Str → Option Value) (base : Heap) (A : Around) (outer : List Env) (s : Shared) (H : Hp) : Prop where
  frames : A.frames = some outer
  mod : Mod K mg base
  bs : ∀ b o, base.get? b = some o → s.heap.get? b = some o ∧ H b = none
  bsz : base.objs.size ≤ s.heap.objs.size
  funs : s.heap.FunFrames base outer
  frf : ∀ b ∈ frs outer, H b = none
  hok : HOk P w H s.heap
  bare : AllBare s.gens
def CE (outer : List Env) (P : Program) (w : World) (H : Hp) (s : Shared) (Q : VK) (u : Value) (s' : Shared) : Prop :=
  ∃ v H', s'.os = s.os ∧ AllBare s'.gens ∧ Un (frs outer) [] H H' s.heap s'.heap ∧ HOk P w H' s'.heap ∧ RelV v u ∧ Q v H'
def CR (CX : CXT) (outer : List Env) (P : Program) (w : World) (H : Hp) (s : Shared) (Q : VK) (E : XK) (r : Result) (s' : Shared) : Prop :=
  match r with
  | .ok (.ret u) => CE outer P w H s Q u s'
  | .ok _ => False
  | .error e => CX outer H s E e s'
structure FnOk (P : Program) (w : World) (K : PySem.W.Frag) (mg : Str → Option Value) (base : Heap) (CX : CXT) (k : Nat) (f : Addr) (fd : FuncData) (ps : List Str) (sp : Sp) : Prop where
  len : ∀ vs H Q E, sp vs H Q E → vs.length = ps.length
  run : ∀ (A : Around) (outer : List Env) (s : Shared) (H : Hp) (args : Args) (us : List Value) (vs : List V) (Q : VK) (E : XK), Room k A → Env0 P w K mg base A outer s H → BindsTo s fd args (ps.zip us) → Vals vs us → sp vs H Q E →
    codeAny (model P w) A (.call (.ref f) args) (CR CX outer P w H s Q E) s
theorem FnOk.mono {P : Program} {w : World} {K : PySem.W.Frag} {mg : Str → Option Value} {base : Heap} {CX : CXT} {j k : Nat} {f : Addr} {fd : FuncData} {ps : List Str} {sp : Sp} (F : FnOk P w K mg base CX j f fd ps sp) (h : j ≤ k) :
    FnOk P w K mg base CX k f fd ps sp := ⟨F.len, fun A outer s H args us vs Q E hr => F.run A outer s H args us vs Q E (hr.mono h)⟩
section
variable {X : Cx} {pins : List (Addr × Obj)} {σ : St} {H : Hp} {s s' : Shared}
theorem Inv.env0 (I : Inv X pins σ H s) : Env0 X.prog X.w X.K X.mg X.base X.A X.stack s H :=
  ⟨I.ok.frames, I.ok.mod, I.bs, Nat.le_trans I.ok.bsz I.sz, I.stack, I.stkFree, I.hok, I.bare⟩
theorem Inv.after {Q : VK} {u : Value} (I : Inv X pins σ H s) (h : CE X.stack X.prog X.w H s Q u s') : EP X pins σ Q u s' := by
  obtain ⟨v, H', os, bare, un, hok, r, q⟩ := h
  obtain ⟨hh, g, d, t, os'⟩ := s'
  obtain rfl : os' = s.os := os
  exact ⟨v, H', I.call (h' := hh) (g' := g) (d' := d) (t' := t) (ch := []) un hok bare (fun b z => absurd z (by simp)), r, q⟩
end
def tCall (sp : Sp) (dvs : List V) (E : XK) (t : TA) : TE := fun σ H Q => t σ H fun vs H1 => sp (vs ++ dvs) H1 Q E
def tMeth (C : Addr) (m : Str) (sp : Sp) (dvs : List V) (E : XK) (ta : TE) (t : TA) : TE := fun σ H Q => ta σ H fun x H1 => ∃ a dx fs, x = .ref a ∧ H1 a = some (.ins C dx fs) ∧ fs.lookup m = none ∧
  t σ H1 fun vs H2 => sp (x :: (vs ++ dvs)) H2 Q E
def tMake (C : Addr) (sp : Sp) (dvs : List V) (E : XK) (t : TA) : TE := fun σ H Q => t σ H fun vs H1 => ∀ x dx, H1 x = none → H1 dx = none → dx ≠ x →
  sp (.ref x :: (vs ++ dvs)) (upd (upd H1 dx (.own x)) x (.ins C dx [])) (fun v H2 => v = .non ∧ Q (.ref x) H2) E
def Binds (K : PySem.W.Frag) (fd : FuncData) (ps : List Str) (ds : List Value) : Prop :=
  ∀ (s : Shared) (us : List Value), K.In s.heap → (us ++ ds).length = ps.length → BindsTo s fd ⟨us, []⟩ (ps.zip (us ++ ds))
theorem Binds.all {K : PySem.W.Frag} {fd : FuncData} {ps : List Str} (h : ∀ us : List Value, us.length = ps.length → bindArgs fd ⟨us, []⟩ = pure (ps.zip us)) : Binds K fd ps [] := fun s us _ hl => by
  rw [List.append_nil] at hl ⊢
  exact .of_eq (h us hl)
def Passes (CX : CXT) (X : Cx) (E : XK) : Prop := ∀ (pins : List (Addr × Obj)) (σ : St) (H : Hp) (s : Shared) (e : Value) (s' : Shared), Inv X pins σ H s → CX X.stack H s E e s' → X.xe e s'
section
variable {X : Cx} {CX : CXT} {k : Nat} {f C : Addr} {fd : FuncData} {ps : List Str} {sp : Sp} {dvs : List V} {ds : List Value} {E : XK} {x m : Str} {p pos apos : Pos} {e o : Expr} {es : List Expr} {ta : TE} {t : TA}
theorem run_fn {pins : List (Addr × Obj)} {σ : St} {H : Hp} {s : Shared} {Q : VK} {us : List Value} {vs : List V} (F : FnOk X.prog X.w X.K X.mg X.base CX k f fd ps sp) (hr : Room k X.A) (hb : Binds X.K fd ps ds) (hd : Vals dvs ds) (hx : Passes CX X E)
    (I : Inv X pins σ H s) (r : Vals vs us) (h : sp (vs ++ dvs) H Q E) : wpAny (model X.prog X.w) X.A (call (.ref f) us) (EP X pins σ Q) X.xe s := by
  have r2 : Vals (vs ++ dvs) (us ++ ds) := r.append hd
  have hl : (us ++ ds).length = ps.length := by rw [← r2.length]; exact F.len _ _ _ _ h
  refine wpAny_call (codeAny_mono (F.run X.A X.stack s H ⟨us, []⟩ (us ++ ds) (vs ++ dvs) Q E hr I.env0 (hb s us I.kIn hl) r2 h) fun r s' hq => ?_)
  cases r with
  | error e => exact hx pins σ H s e s' I hq
  | ok fl =>
    cases fl with
    | ret u => exact I.after hq
    | next => exact False.elim hq
    | brk => exact False.elim hq
    | cont => exact False.elim hq
theorem pe_call (F : FnOk X.prog X.w X.K X.mg X.base CX k f fd ps sp) (hr : Room k X.A) (hg : Gl X x) (hm : X.mg x = some (.ref f)) (hk : PySem.W.keepIn X.K (.ref f) = true) (hb : Binds X.K fd ps ds) (hd : Vals dvs ds) (hx : Passes CX X E)
    (ha : PA X (e :: es) t) (hdb : (x == ("__debug__" : Str)) = false := by decide) (he : starEach (e :: es) X.env = (false, eval e X.env) :: starEach es X.env := by rfl) (hpl : (backTo pos (starEach es X.env)).any (·.1) = false := by rfl) :
    PE X (.Call (.Name x p) (e :: es) [] pos) (tCall sp dvs E t) := by
  intro pins s σ H Q I h
  refine wpAny_Call_Name_kw (ld_glob I hg hm ?_ hdb)
  refine PySem.W.callWith_K (h₀ := X.base) I.ok.mod.kin hk (thn (ha pos pins s σ H _ I h) fun us s1 ⟨vs, H1, I1, r, q⟩ => ⟨I1.kIn, ?_⟩) he hpl
  exact run_fn F hr hb hd hx I1 r q
structure Mk (K : PySem.W.Frag) (C f : Addr) : Prop where
  makes : PySem.W.makesIn K C = true
  init : PySem.W.findIn K (.ref C) "__init__" = some (some (.ref f))
  fn : PySem.W.isFn K (.ref f) = true
  kp : PySem.W.keepIn K (.ref C) = true
end
def PK (X : Cx) (kws : List Keyword) (t : TA) : Prop :=
  ∀ (pos : Pos) (pins : List (Addr × Obj)) (s : Shared) (σ : St) (H : Hp) (Q : List V → Hp → Prop), Inv X pins σ H s → t σ H Q → wpAny (model X.prog X.w) X.A (evalAll ((backToKw pos (keywordEach kws X.env)).map (·.2))) (AP X pins σ Q) X.xe s
section
variable {X : Cx} {CX : CXT} {k : Nat} {f C : Addr} {fd : FuncData} {ps ks : List Str} {sp : Sp} {E : XK} {x m : Str} {p pos apos kpos : Pos} {e o : Expr} {es : List Expr} {kws : List Keyword} {te ta : TE} {t tk : TA} {nm : Option Str}
structure KBinds (K : PySem.W.Frag) (fd : FuncData) (ps ks : List Str) (g : List Value → List Value → List Value) (gV : List V → List V → List V) : Prop where
  to : ∀ (s : Shared) (us ws : List Value), K.In s.heap → (g us ws).length = ps.length → BindsTo s fd ⟨us, ks.zip ws⟩ (ps.zip (g us ws))
  rel : ∀ {vs : List V} {us : List Value} {zs : List V} {ws : List Value}, Vals vs us → Vals zs ws → Vals (gV vs zs) (g us ws)
def tCallK (sp : Sp) (gV : List V → List V → List V) (E : XK) (t tk : TA) : TE := fun σ H Q => t σ H fun vs H1 => tk σ H1 fun zs H2 => sp (gV vs zs) H2 Q E
variable {g : List Value → List Value → List Value} {gV : List V → List V → List V}
end
structure FnScope (N P : List Str) (sc : Scope) : Prop where
  kind : sc.kind = .function
  co : sc.isCoroutine = false
  gen : sc.isGenerator = false
  nd : N.Nodup
  pre : N.take P.length = P
  par : ∀ x ∈ P, sc.names.lookup x = some .local ∨ sc.names.lookup x = some .cell
  nofree : ∀ y ∈ sc.names, y.2 ≠ .free
theorem bindL_out {kindOf : Str → Option NameKind} {x : Str} : ∀ {binds : List (Str × Value)} {m : Str → Option Value}, (∀ v, (x, v) ∉ binds) → bindL kindOf binds m x = m x
  | [], _, _ => rfl
  | (n, v) :: r, m, h => by
    unfold bindL
    rw [bindL_out fun w hw => h w (List.mem_cons_of_mem _ hw)]
    split
    · have : x ≠ n := by rintro rfl; exact h v List.mem_cons_self
      simp [this]
    · rfl
theorem bindC_out {kindOf : Str → Option NameKind} {x : Str} : ∀ {binds : List (Str × Value)} {m : Str → Option Value}, (∀ v, (x, v) ∉ binds) → bindC kindOf binds m x = m x
  | [], _, _ => rfl
  | (n, v) :: r, m, h => by
    unfold bindC
    rw [bindC_out fun w hw => h w (List.mem_cons_of_mem _ hw)]
    split
    · rfl
    · have : x ≠ n := by rintro rfl; exact h v List.mem_cons_self
      simp [this]
theorem bindL_get {kindOf : Str → Option NameKind} {x : Str} {v : Value} : ∀ {P : List Str} {vs : List Value} {i : Nat} {m : Str → Option Value}, P.Nodup → P[i]? = some x → vs[i]? = some v → kindOf x = some .local →
    bindL kindOf (P.zip vs) m x = some v
  | [], _, _, _, _, h, _, _ => by simp at h
  | _ :: _, [], _, _, _, _, h, _ => by simp at h
  | p :: P, w :: vs, 0, m, nd, h1, h2, hk => by
    simp at h1 h2; subst h1; subst h2
    show bindL kindOf ((p, w) :: P.zip vs) m p = _
    unfold bindL
    rw [bindL_out fun v hv => (List.nodup_cons.mp nd).1 (List.of_mem_zip hv).1, if_pos hk]
    simp
  | p :: P, w :: vs, i + 1, m, nd, h1, h2, hk => by
    show bindL kindOf ((p, w) :: P.zip vs) m x = _
    unfold bindL
    exact bindL_get (i := i) (List.nodup_cons.mp nd).2 (by simpa using h1) (by simpa using h2) hk
theorem bindC_get {kindOf : Str → Option NameKind} {x : Str} {v : Value} : ∀ {P : List Str} {vs : List Value} {i : Nat} {m : Str → Option Value}, P.Nodup → P[i]? = some x → vs[i]? = some v → kindOf x ≠ some .local →
    bindC kindOf (P.zip vs) m x = some v
  | [], _, _, _, _, h, _, _ => by simp at h
  | _ :: _, [], _, _, _, _, h, _ => by simp at h
  | p :: P, w :: vs, 0, m, nd, h1, h2, hk => by
    simp at h1 h2; subst h1; subst h2
    show bindC kindOf ((p, w) :: P.zip vs) m p = _
    unfold bindC
    rw [bindC_out fun v hv => (List.nodup_cons.mp nd).1 (List.of_mem_zip hv).1, if_neg hk]
    simp
  | p :: P, w :: vs, i + 1, m, nd, h1, h2, hk => by
    show bindC kindOf ((p, w) :: P.zip vs) m x = _
    unfold bindC
    exact bindC_get (i := i) (List.nodup_cons.mp nd).2 (by simpa using h1) (by simpa using h2) hk
def start (N : List Str) (vs : List V) : St := vs.map some ++ List.replicate (N.length - vs.length) none
def cxOf (CX : CXT) (P : Program) (w : World) (K : PySem.W.Frag) (mg : Str → Option Value) (base : Heap) (N : List Str) (qual : Str) (scope : Scope) (f : Addr) (cd : Value) (A : Around) (outer : List Env) (s : Shared) (H : Hp) (E : XK) : Cx where
  prog := P
  w := w
  K := K
  mg := mg
  base := base
  A := A.deeper (envOfC qual scope s.heap.objs.size f cd)
  N := N
  s₀ := s
  H₀ := H
  env := envOfC qual scope s.heap.objs.size f cd
  outer := outer
  stack := envOfC qual scope s.heap.objs.size f cd :: outer
  ex := []
  calm := true
  fn := fun _ => true
  pn := []
  xe := fun e s' => wpAny (model P w) (A.deeper (envOfC qual scope s.heap.objs.size f cd)) (leaving (envOfC qual scope s.heap.objs.size f cd) e) (fun _ s'' => CX outer H s E e s'') (fun e' s'' => CX outer H s E e' s'') s'
theorem cell_has {sc : Scope} {n : Nat} {x : Str} (h : sc.names.lookup x = some .cell) : ∃ c, (cellsFrom n sc.names []).lookup x = some c := by
  have q := PySem.W.cellsFrom_some sc.names n [] (.inl h)
  exact Option.isSome_iff_exists.mp q
theorem inv_start {CX : CXT} {P : Program} {w : World} {K : PySem.W.Frag} {mg : Str → Option Value} {base : Heap} {N ps : List Str} {qual : Str} {scope : Scope} {f : Addr} {cd : Value} {A : Around} {outer : List Env} {s s1 : Shared} {H : Hp} {E : XK} {us : List Value} {vs : List V}
    (S : FnScope N ps scope) (hd : A.handled = none) (e0 : Env0 P w K mg base A outer s H) (hl : vs.length = ps.length) (r : Vals vs us)
    (x : InCallC s s.heap.objs.size (bindL (envOfC qual scope s.heap.objs.size f cd).kindOf (ps.zip us) fun _ => none) (cellsFrom (s.heap.objs.size + 1) scope.names []) (bindC (envOfC qual scope s.heap.objs.size f cd).kindOf (ps.zip us) fun _ => none) s1) :
    Inv (cxOf CX P w K mg base N qual scope f cd A outer s H E) [] (start N vs) H s1 := by
  have hpl : ps.length ≤ N.length := by have := congrArg List.length S.pre; rw [List.length_take] at this; (first|lia|omega)
  obtain ⟨h1, tk, rfl, hk⟩ := x.done
  have noA : ∀ b : Addr, b ∉ (cxOf CX P w K mg base N qual scope f cd A outer s H E).ex := fun b z => absurd (show b ∈ ([] : List Addr) from z) (by simp)
  refine ⟨⟨e0.mod, S.kind, rfl, rfl, Nat.le_refl _, fun y z c h1 h2 => ?_, fun y hy => ?_, fun y c _ h => ?_, fun _ => hd, Around.frames_deeper e0.frames, .inr ⟨rfl, rfl⟩, fun b z => absurd z (noA b), e0.bs, e0.bsz, fun b _ _ => noA b, fun b z => absurd z (noA b), e0.funs, e0.frf⟩,
    rfl, e0.bare, Un.kept hk, ⟨_, x.toInCall.ns, fun i y v h1 h2 h3 => ?_⟩, fun y c h => ⟨_, x.cell y c h⟩, e0.hok.fresh (Nat.le_refl _), fun y c h => ?_, fun p hp => absurd (show p ∈ ([] : List (Addr × Obj)) from hp) (by simp), e0.hok.kept hk, ?_⟩
  · exact name_of_addr x.apart (PySem.mem_of_lookup h1) (PySem.mem_of_lookup h2)
  · have hy : scope.names.lookup y = some .cell ∨ scope.names.lookup y = some .free := hy
    rcases hy with hy | hy
    · exact cell_has hy
    · exact absurd rfl (S.nofree _ (PySem.mem_of_lookup hy))
  · exact Nat.le_of_lt (x.above y c (PySem.mem_of_lookup h))
  · have hi : i < vs.length := by
      unfold start at h2
      by_cases hi : i < vs.length
      · exact hi
      · rw [List.getElem?_append_right (by simpa using hi)] at h2
        rw [List.getElem?_replicate] at h2
        split at h2 <;> cases h2
    have ha : vs[i]? = some v := by
      unfold start at h2
      rw [List.getElem?_append_left (by simpa using hi), List.getElem?_map] at h2
      cases e : vs[i]? with
      | none => rw [e] at h2; cases h2
      | some a => rw [e] at h2; cases h2; rfl
    obtain ⟨u, hu, rv⟩ := r.get ha
    have hp : ps[i]? = some y := by
      rw [← S.pre, List.getElem?_take_of_lt (by (first|lia|omega))]; exact h1
    have ndP : ps.Nodup := by rw [← S.pre]; exact S.nd.sublist (List.take_sublist _ _)
    refine ⟨u, rv, ?_⟩
    rcases S.par y (List.mem_of_getElem? hp) with k | k
    · exact .inl ⟨k, bindL_get ndP hp hu k⟩
    · obtain ⟨c, e⟩ := cell_has (n := s.heap.objs.size + 1) k
      refine .inr ⟨.inl k, c, e, ?_⟩
      have q := x.cell y c e
      rw [bindC_get ndP hp hu (by show scope.names.lookup y ≠ _; rw [k]; decide)] at q
      exact q
  · exact e0.hok.fresh (Nat.le_of_lt (x.above y c (PySem.mem_of_lookup h)))
  · unfold start
    show _ = N.length
    rw [List.length_append, List.length_map, List.length_replicate]
    (first|lia|omega)
theorem fn_of {CX : CXT} {P : Program} {w : World} {K : PySem.W.Frag} {mg : Str → Option Value} {base : Heap} {k : Nat} {f : Addr} {name qual : Str} {params : Arguments} {body : List Stmt} {scope : Scope} {dV kV doc pm cdv ct oc : Value} {an od : Option Addr}
    {osl : Array (Option Value)} {N ps : List Str} {sp : Sp} (lk : K.lookup f = some ⟨oc, od, .func (PySem.W.fnOf name qual params body scope dV kV doc pm an cdv ct), osl⟩) (hcd : PySem.W.codeIn K cdv qual = true) (S : FnScope N ps scope)
    (len : ∀ vs H Q E, sp vs H Q E → vs.length = ps.length)
    (hbody : ∀ (A : Around) (outer : List Env) (s : Shared) (H : Hp) (vs : List V) (Q : VK) (E : XK), Room k (A.deeper (envOfC qual scope s.heap.objs.size f cdv)) → sp vs H Q E →
      ∃ t, PSs (cxOf CX P w K mg base N qual scope f cdv A outer s H E) body t ∧ t { nx := fun _ H' => Q .non H', rt := Q } (start N vs) H) :
    FnOk P w K mg base CX (k + 1) f (PySem.W.fnOf name qual params body scope dV kV doc pm an cdv ct) ps sp := by
  refine ⟨len, fun A outer s H args us vs Q E hr e0 hb r hsp => ?_⟩
  have hl := len _ _ _ _ hsp
  have KX : K.In s.heap := e0.mod.kin.keeps fun b o e => (e0.bs b o e).1
  have lim : s.heap.NoLimit := e0.mod.nolimit.keeps fun b o e => (e0.bs b o e).1
  have hkind : ∀ y ∈ ps.zip us, scope.names.lookup y.1 = some .local ∨ (scope.names.lookup y.1 = some .cell ∧ ((cellsFrom (s.heap.objs.size + 1) scope.names []).lookup y.1).isSome = true) := fun ⟨n, v⟩ hy => by
    rcases S.par n (List.of_mem_zip hy).1 with q | q
    · exact .inl q
    · exact .inr ⟨q, PySem.W.cellsFrom_some _ _ _ (.inl q)⟩
  refine codeAny_call_function hr.depth (KX _ _ lk) rfl S.co S.gen rfl (PySem.W.codeRec_of KX hcd) (hb _ _ _ _ ?_)
  refine wpAny_newFunctionEnv_cells S.kind hkind fun env he s1 x => ?_
  subst he
  refine ⟨lim.keeps x.toInCall.keep, codeAny_func ?_⟩
  obtain ⟨t, ht, hq⟩ := hbody A outer s H vs Q E (hr.deeper _) hsp
  have I : Inv (cxOf CX P w K mg base N qual scope f cdv A outer s H E) [] (start N vs) H s1 := inv_start S hr.hd e0 hl r x
  refine wpAny_mono (ht [] s1 (start N vs) H _ I hq) (fun fl s' hs => ?_) fun e s' hs => hs
  have fin : ∀ {σ' : St} {H' : Hp} {v : V} {u : Value}, Inv (cxOf CX P w K mg base N qual scope f cdv A outer s H E) [] σ' H' s' → RelV v u → Q v H' → CE outer P w H s Q u s' :=
    fun {σ' H' v u} J rv q => ⟨v, H', J.os, J.bare, J.base, J.hok, rv, q⟩
  cases fl with
  | ret u =>
    obtain ⟨v, σ', H', J, rv, q⟩ := hs
    exact fin J rv q
  | next =>
    obtain ⟨σ', H', J, q⟩ := hs
    exact fin (v := V.non) (u := Value.none) J rfl q
  | brk =>
    obtain ⟨_, _, _, q⟩ := hs
    exact False.elim q
  | cont =>
    obtain ⟨_, _, _, q⟩ := hs
    exact False.elim q
end L2
namespace L2
open PySem PySem.Spec PyProof.Rows
section
variable {X : Cx} {x : Str} {p pos : Pos} {e : Expr} {es : List Expr} {t : TA} {id T : String} {r : List V → Hp → VK → Prop}
def tCB (r : List V → Hp → VK → Prop) (t : TA) : TE := fun σ H Q => t σ H fun vs H1 => r vs H1 Q
theorem pe_callB (hc : CallR X (.builtin id) r) (hg : Gl X x) (hm : X.mg x = none) (hv : bootBuiltins x = some (.builtin id)) (ha : PA X (e :: es) t) (hn : x ≠ "__name__" := by decide) (hdb : (x == ("__debug__" : Str)) = false := by decide)
    (he : starEach (e :: es) X.env = (false, eval e X.env) :: starEach es X.env := by rfl) (hpl : (backTo pos (starEach es X.env)).any (·.1) = false := by rfl) : PE X (.Call (.Name x p) (e :: es) [] pos) (tCB r t) := by
  intro pins s σ H Q I h
  refine wpAny_Call_Name_kw (ld_blt I hg hm hv ?_ hn hdb)
  exact PyProof.Rows.callWith_builtin1 (thn (ha pos pins s σ H _ I h) fun us s1 ⟨vs, H1, I1, r1, q1⟩ => hc pins s1 σ H1 vs us Q I1 r1 q1) he hpl
theorem pe_callTy (hc : CallR X (.type T) r) (hg : Gl X x) (hm : X.mg x = none) (hv : bootBuiltins x = some (.type T)) (ha : PA X (e :: es) t) (hn : x ≠ "__name__" := by decide) (hdb : (x == ("__debug__" : Str)) = false := by decide)
    (he : starEach (e :: es) X.env = (false, eval e X.env) :: starEach es X.env := by rfl) (hpl : (backTo pos (starEach es X.env)).any (·.1) = false := by rfl) : PE X (.Call (.Name x p) (e :: es) [] pos) (tCB r t) := by
  intro pins s σ H Q I h
  refine wpAny_Call_Name_kw (ld_blt I hg hm hv ?_ hn hdb)
  exact PyProof.Rows.callWith_type1 (thn (ha pos pins s σ H _ I h) fun us s1 ⟨vs, H1, I1, r1, q1⟩ => hc pins s1 σ H1 vs us Q I1 r1 q1) he hpl
end
end L2
namespace HT
open PySem PyProof.Rows
def lexLt : List Int → List Int → Bool
  | [], [] => false
  | [], _ :: _ => true
  | _ :: _, [] => false
  | x :: xs, y :: ys => if x = y then lexLt xs ys else decide (x < y)
section
open PySem.SeqAt
open PySem.AutoSeq1 (wpAny_loadPart')
open PySem.MeetsSeq PySem.MeetsSeq2 PySem.MeetsSeq3
end
section
variable {prog : Program} {w : World} {A : Around} {E : Value → Shared → Prop} {s : Shared}
def sIx (n d : Nat) : Option Int → Nat
  | none => d
  | some v => if v < 0 then (v + (n : Int)).toNat else min v.toNat n
theorem sIx_none (n d : Nat) : sIx n d none = d := rfl
theorem sIx_nat (n d k : Nat) : sIx n d (some (k : Int)) = min k n := by
  show (if (k : Int) < 0 then ((k : Int) + (n : Int)).toNat else min (k : Int).toNat n) = min k n
  rw [if_neg (by (first|lia|omega)), Int.toNat_natCast]
end
end HT
namespace L2
open PySem PySem.Spec PyProof.Rows
abbrev TO := St → Hp → (Option Int → Hp → Prop) → Prop
def PO (X : Cx) (e : Option Expr) (t : TO) : Prop :=
  ∀ (pins : List (Addr × Obj)) (s : Shared) (σ : St) (H : Hp) (Q : Option Int → Hp → Prop), Inv X pins σ H s → t σ H Q →
    wpAny (model X.prog X.w) X.A (evalPart e X.env) (fun u s' => ∃ o H', Inv X pins σ H' s' ∧ IsPart u o ∧ Q o H') X.xe s
def tNoPart : TO := fun _ H Q => Q none H
def tPart (t : TE) : TO := fun σ H Q => t σ H fun x H1 => ∃ i, x = .int i ∧ Q (some i) H1
section
variable {X : Cx} {e : Expr} {te : TE} {lo hi : Option Expr} {tl th : TO} {pos p2 : Pos}
theorem po_none : PO X none tNoPart := by
  intro pins s σ H Q I h
  rw [evalPart_none]
  exact wpAny_pure ⟨none, H, I, .none, h⟩
theorem po_some (h : PE X e te) : PO X (some e) (tPart te) := by
  intro pins s σ H Q I hw
  rw [evalPart_some]
  refine thn (h pins s σ H _ I hw) fun u s1 ⟨x, H1, I1, r1, q1⟩ => ?_
  obtain ⟨i, rfl, q⟩ := q1
  obtain ⟨t, rfl⟩ := r1
  exact ⟨some i, H1, I1, .int i t, q⟩
def SlR (X : Cx) (r : V → Option Int → Option Int → Hp → VK → Prop) : Prop :=
  ∀ (pins : List (Addr × Obj)) (s : Shared) (σ : St) (H : Hp) (x : V) (v vl vu : Value) (lo hi : Option Int) (sl : Addr) (Q : VK), Inv X pins σ H s → RelV x v → s.heap.IsSliceOf sl vl vu .none → IsPart vl lo → IsPart vu hi → r x lo hi H Q →
    ∃ T id, typeLookup (.type T) "__getitem__" = pure (some (.builtin id)) ∧ s.TypeIs v T ∧ wpAny (model X.prog X.w) X.A (getItem v (.ref sl)) (EP X pins σ Q) X.xe s
def tSl (r : V → Option Int → Option Int → Hp → VK → Prop) (te : TE) (tl th : TO) : TE := fun σ H Q => te σ H fun x H1 => tl σ H1 fun l H2 => th σ H2 fun u H3 => r x l u H3 Q
theorem pe_slice {r : V → Option Int → Option Int → Hp → VK → Prop} (hr : SlR X r) (he : PE X e te) (hl : PO X lo tl) (hu : PO X hi th) : PE X (.Subscript e (.Slice lo hi none p2) pos) (tSl r te tl th) := by
  intro pins s σ H Q I h
  refine Subscript_ (thn (he pins s σ H _ I h) fun v s1 ⟨x, H1, I1, r1, q1⟩ => ?_)
  refine wpAny_Slice (thn (hl pins s1 σ H1 _ I1 q1) fun vl s2 ⟨l, H2, I2, pl, q2⟩ => thn (hu pins s2 σ H2 _ I2 q2) fun vu s3 ⟨u, H3, I3, pu, q3⟩ => ?_)
  rw [evalPart_none]
  refine wpAny_pure ?_
  have I4 : Inv X pins σ H3 { s3 with heap := s3.heap.push { cls := .type "slice", data := .fields #[vl, vu, .none] } } := I3.kept (t' := s3.toks) fun b ob q => Heap.get?_push_of_some _ q
  obtain ⟨T, id, hT, ht, hg⟩ := hr pins { s3 with heap := s3.heap.push { cls := .type "slice", data := .fields #[vl, vu, .none] } } σ H3 x v vl vu l u s3.heap.objs.size Q I4 r1 (Heap.IsSliceOf.new ..) pl pu q3
  show wpAny (model X.prog X.w) X.A (subscriptTail e (.Slice lo hi none p2) v (.ref s3.heap.objs.size)) (EP X pins σ Q) X.xe { s3 with heap := s3.heap.push { cls := .type "slice", data := .fields #[vl, vu, .none] } }
  exact tail_any (ops := [.ref s3.heap.objs.size, v]) ht hT hg (by with_unfolding_all rfl)
def cutV (xs : List V) (lo hi : Option Int) : List V := (xs.drop (HT.sIx xs.length 0 lo)).take (HT.sIx xs.length xs.length hi - HT.sIx xs.length 0 lo)
theorem cutV_length (xs : List V) (lo hi : Option Int) : (cutV xs lo hi).length ≤ xs.length := by
  unfold cutV
  rw [List.length_take, List.length_drop]
  (first|lia|omega)
def rSlT (K : PySem.W.Frag) : V → Option Int → Option Int → Hp → VK → Prop := fun x lo hi H Q => ∃ a xs, x = .ref a ∧ SqT K H a xs ∧
  ¬ (HT.sIx xs.length 0 lo = 0 ∧ HT.sIx xs.length xs.length hi = xs.length) ∧ ∀ p, H p = none → Q (.ref p) (upd H p (.tup (cutV xs lo hi)))
def rLtT (K : PySem.W.Frag) : R2 := fun x y H Q => ∃ a b ns ms, x = .ref a ∧ y = .ref b ∧ SqT K H a (ns.map V.int) ∧ SqT K H b (ms.map V.int) ∧ Q (.bl (HT.lexLt ns ms)) H
def rCatT (K : PySem.W.Frag) : R2 := fun x y H Q => ∃ a b xs ys, x = .ref a ∧ y = .ref b ∧ SqT K H a xs ∧ SqT K H b ys ∧ xs ≠ [] ∧ xs.length + ys.length ≤ sizeLine ∧
  (ys = [] → Q (.ref a) H) ∧ (ys ≠ [] → ∀ p, H p = none → Q (.ref p) (upd H p (.tup (xs ++ ys))))
end
end L2
namespace L2
open PySem PySem.Spec PyProof.Rows
def ixN (n : Nat) (i : Int) : Option Nat := if 0 ≤ i then (if i < n then some i.toNat else none) else if -(n : Int) ≤ i then some (i + n).toNat else none
def atI {α : Type} (xs : List α) (i : Int) : Option α := (ixN xs.length i).bind fun j => xs[j]?
theorem ixN_seq {n : Nat} {i : Int} {j : Nat} (h : ixN n i = some j) : seqIndex? i n = some j ∧ j < n ∧ -(n : Int) ≤ i ∧ i < n := by
  unfold ixN at h
  by_cases h0 : 0 ≤ i
  · rw [if_pos h0] at h
    by_cases h1 : i < n
    · rw [if_pos h1] at h
      have e : i.toNat = j := Option.some.inj h
      exact ⟨by rw [seqIndex_of h0 h1, e], by (first|lia|omega), by (first|lia|omega), h1⟩
    · rw [if_neg h1] at h; cases h
  · rw [if_neg h0] at h
    by_cases h1 : -(n : Int) ≤ i
    · rw [if_pos h1] at h
      have e : (i + n).toNat = j := Option.some.inj h
      exact ⟨by rw [seqIndex_neg (by (first|lia|omega)) h1, e], by (first|lia|omega), h1, by (first|lia|omega)⟩
    · rw [if_neg h1] at h; cases h
theorem atI_get {α : Type} {xs : List α} {i : Int} {v : α} (h : atI xs i = some v) : ∃ j, seqIndex? i xs.length = some j ∧ xs[j]? = some v ∧ j < xs.length ∧ -(xs.length : Int) ≤ i ∧ i < xs.length := by
  unfold atI at h
  cases e : ixN xs.length i with
  | none => rw [e] at h; cases h
  | some j =>
    rw [e] at h
    obtain ⟨h1, h2, h3, h4⟩ := ixN_seq e
    exact ⟨j, h1, h, h2, h3, h4⟩
theorem atI_nat {α : Type} {xs : List α} {j : Nat} {v : α} (h : xs[j]? = some v) : atI xs (j : Int) = some v := by
  have hj : j < xs.length := (List.getElem?_eq_some_iff.mp h).1
  have e : ixN xs.length (j : Int) = some j := by
    unfold ixN
    rw [if_pos (by (first|lia|omega)), if_pos (by (first|lia|omega))]; simp
  unfold atI; rw [e]; exact h
def PlainIx (b : Expr) : Prop := ∀ o i, subscripted b false o i = operate [o, i] (getItem o i)
def IxR (X : Cx) (r : R2) : Prop :=
  ∀ (value slice : Expr) (pins : List (Addr × Obj)) (s : Shared) (σ : St) (H : Hp) (x y : V) (v u : Value) (Q : VK), Inv X pins σ H s → RelV x v → RelV y u → r x y H Q →
    subscripted slice false v u = operate [v, u] (getItem v u) → wpAny (model X.prog X.w) X.A (subscriptTail value slice v u) (EP X pins σ Q) X.xe s
def MtR (X : Cx) (id : String) (r : V → List V → Hp → VK → Prop) : Prop :=
  ∀ (pins : List (Addr × Obj)) (s : Shared) (σ : St) (H : Hp) (x : V) (xs : List V) (v : Value) (us : List Value) (Q : VK), Inv X pins σ H s → RelV x v → Vals xs us → r x xs H Q →
    wpAny (model X.prog X.w) X.A (call (.builtin id) (v :: us)) (EP X pins σ Q) X.xe s
section
variable {X : Cx} {a b : Expr} {ta tb : TE} {pos : Pos}
theorem pe_ix {r : R2} (hr : IxR X r) (ha : PE X a ta) (hb : PE X b tb) (hs : PlainIx b) : PE X (.Subscript a b pos) (tOp r ta tb) := by
  intro pins s σ H Q I h
  exact Subscript_ (binT ha hb I h fun v u s2 x y H2 I2 rx ry q => hr a b pins s2 σ H2 x y v u Q I2 rx ry q (hs _ _))
def rIxL (K : PySem.W.Frag) : R2 := fun x y H Q => ∃ p xs i v, x = .ref p ∧ y = .int i ∧ SqL K H p xs ∧ atI xs i = some v ∧ Q v H
def rIxT (K : PySem.W.Frag) : R2 := fun x y H Q => ∃ p xs i v, x = .ref p ∧ y = .int i ∧ SqT K H p xs ∧ atI xs i = some v ∧ Q v H
def rIxS : R2 := fun x y H Q => ∃ z i c, x = .str z ∧ y = .int i ∧ z.length ≤ sizeLine ∧ atI z.cps.toList i = some c ∧ Q (.str ⟨#[c]⟩) H
theorem ix_list : IxR X (rIxL X.K) := by
  intro value slice pins s σ H x y v u Q I rx ry h hs
  obtain ⟨p, xs, i, z, rfl, rfl, hq, he, q⟩ := h
  cases rx
  obtain ⟨t, rfl⟩ := ry
  obtain ⟨its, r, pl, hz⟩ := I.list hq
  obtain ⟨j, h1, h2, h3, h4, h5⟩ := atI_get he
  obtain ⟨w, ew, rw'⟩ := r.get h2
  have hl := r.length
  have hn := line63
  have fin : EP X pins σ Q w s := ⟨z, H, I, rw', q⟩
  by_cases h0 : 0 ≤ i
  · have hj : i.toNat = j := by
      rw [seqIndex_of h0 h5] at h1
      exact Option.some.inj h1
    exact item_listR pl.isList h0 (by (first|lia|omega)) (by rw [hj]; simpa using ew) fin hs
  · have hj : (i + (its.toArray.size : Int)).toNat = j := by
      rw [seqIndex_neg (by (first|lia|omega)) h4] at h1
      rw [List.size_toArray, ← hl]
      exact Option.some.inj h1
    exact subscriptTail_builtinR (x := w) pl.isList.typeIs slot_list_getitem.lookup
      (wpAny_getItem_list_neg (Q := fun r s' => r = w ∧ EP X pins σ Q r s') pl.isList (by (first|lia|omega)) (by rw [List.size_toArray] <;> (first|lia|omega)) (by (first|lia|omega)) (by rw [hj]; simpa using ew) ⟨rfl, fin⟩) hs
def rIx (K : PySem.W.Frag) : R2 := fun x y H Q => rIxL K x y H Q ∨ rIxT K x y H Q ∨ rIxS x y H Q
theorem mapSeq_set (its : List Value) (n j : Nat) (u : Value) : Obj.mapSeq (·.setIfInBounds j u) { cls := .type "list", data := .seq its.toArray n } = { cls := .type "list", data := .seq (its.set j u).toArray n } := by
  simp [Obj.mapSeq]
theorem Inv.lst {pins : List (Addr × Obj)} {σ : St} {H : Hp} {s : Shared} {p : Addr} {xs : List V} (I : Inv X pins σ H s) (h : H p = some (.lst xs)) :
    ∃ (its : List Value) (n : Nat), Vals xs its ∧ s.heap.get? p = some { cls := .type "list", data := .seq its.toArray n } ∧ xs.length ≤ sizeLine := by
  obtain ⟨z, its, n, r, e⟩ := I.hok p _ h
  exact ⟨its, n, r, e, z⟩
theorem Inv.lstUpd {pins : List (Addr × Obj)} {σ : St} {H : Hp} {s : Shared} {p : Addr} {xs ys : List V} {its its' : List Value} {n n' : Nat} {f : Obj → Obj} (I : Inv X pins σ H s) (h : H p = some (.lst xs))
    (ho : s.heap.get? p = some { cls := .type "list", data := .seq its.toArray n }) (hf : f { cls := .type "list", data := .seq its.toArray n } = { cls := .type "list", data := .seq its'.toArray n' }) (r : Vals ys its') (hz : ys.length ≤ sizeLine) (t : Nat) :
    Inv X pins σ (upd H p (.lst ys)) { s with heap := s.heap.update p f, toks := t } := by
  have e : (s.heap.update p f).get? p = some { cls := .type "list", data := .seq its'.toArray n' } := by
    rw [Heap.get?_update_self f ho (by rw [hf] <;> rfl), hf]
  refine I.write (x := p) (e := p) (by rw [h]; trivial) (.inl rfl) (fun b u hb q => (Heap.get?_update_other _ _ (Ne.symm hb)).trans q) ⟨_, e⟩ ?_
  exact ⟨hz, its', n', r, e⟩
def rSetL : V → V → V → Hp → (Hp → Prop) → Prop := fun o i v H Q => ∃ p xs k j, o = .ref p ∧ i = .int k ∧ H p = some (.lst xs) ∧ ixN xs.length k = some j ∧ Q (upd H p (.lst (xs.set j v)))
theorem set_list : PSet X rSetL := by
  intro pins s σ H o i v ov iv u Q I ro ri rv h
  obtain ⟨p, xs, k, j, rfl, rfl, hp, hj, q⟩ := h
  cases ro
  obtain ⟨t, rfl⟩ := ri
  obtain ⟨its, n, r, ho, hz⟩ := I.lst hp
  obtain ⟨h1, h2, h3, h4⟩ := ixN_seq hj
  have hl := r.length
  have hn := line63
  have I' : Inv X pins σ (upd H p (.lst (xs.set j v))) { s with heap := s.heap.update p (Obj.mapSeq (·.setIfInBounds j u)) } :=
    I.lstUpd hp ho (mapSeq_set its n j u) (r.set rv j) (by rw [List.length_set]; exact hz) s.toks
  by_cases h0 : 0 ≤ k
  · have hk : k.toNat = j := by
      rw [seqIndex_of h0 h4] at h1
      exact Option.some.inj h1
    exact PySem.W.ki_setAt ho h0 (by (first|lia|omega)) (by rw [List.size_toArray, ← hl]; exact h4) (by rw [hk]; exact ⟨_, I', q⟩)
  · have hk : (k + (its.toArray.size : Int)).toNat = j := by
      rw [seqIndex_neg (by (first|lia|omega)) h3] at h1
      rw [List.size_toArray, ← hl]
      exact Option.some.inj h1
    exact PySem.W.ki_setBack ho (by (first|lia|omega)) (by rw [List.size_toArray, ← hl]; exact h3) (by (first|lia|omega)) (by rw [hk]; exact ⟨_, I', q⟩)
theorem slice_bounds (lo hi : Option Int) (n : Nat) : (sliceBounds lo hi none n).1 = ((HT.sIx n 0 lo : Nat) : Int) ∧ (sliceBounds lo hi none n).2.1 = ((HT.sIx n n hi : Nat) : Int) ∧ (sliceBounds lo hi none n).2.2 = 1 := by
  refine ⟨?_, ?_, rfl⟩
  · cases lo with
    | none => simp [sliceBounds, HT.sIx]
    | some i =>
      simp only [sliceBounds,HT.sIx,Option.getD_none,show (1 : Int) > 0 by decide,if_true]
      by_cases h : i < 0
      · simp only [h,if_true] <;> (first|lia|omega)
      · simp only [h,if_false] <;> (first|lia|omega)
  · cases hi with
    | none => simp [sliceBounds, HT.sIx]
    | some i =>
      simp only [sliceBounds,HT.sIx,Option.getD_none,show (1 : Int) > 0 by decide,if_true]
      by_cases h : i < 0
      · simp only [h,if_true] <;> (first|lia|omega)
      · simp only [h,if_false] <;> (first|lia|omega)
theorem slicePick_cut (its : List Value) (lo hi : Option Int) : slicePick its.toArray lo hi none = ((its.drop (HT.sIx its.length 0 lo)).take (HT.sIx its.length its.length hi - HT.sIx its.length 0 lo)).toArray := by
  obtain ⟨h1, h2, h3⟩ := slice_bounds lo hi its.toArray.size
  unfold slicePick
  rw [h1, h2, h3]
  simp only [sliceRange_one,pick_run,List.size_toArray] <;> rfl
def rSlL (K : PySem.W.Frag) : V → Option Int → Option Int → Hp → VK → Prop := fun x lo hi H Q => ∃ a xs, x = .ref a ∧ SqL K H a xs ∧ ∀ p, H p = none → Q (.ref p) (upd H p (.lst (cutV xs lo hi)))
theorem sl_list : SlR X (rSlL X.K) := by
  intro pins s σ H x v vl vu lo hi sl Q I rx hs pl pu h
  obtain ⟨a, xs, rfl, hx, q⟩ := h
  cases rx
  obtain ⟨its, r, ht, hz⟩ := I.list hx
  have hlen := r.length
  refine ⟨"list", _, slot_list_getitem.lookup, ht.isList.typeIs, ?_⟩
  refine wpAny_getItem_list_slice ht.isList hs pl pu .none (by simp) ?_ (by rw [List.size_toArray] <;> (first|lia|omega))
  rw [slicePick_cut, ← hlen]
  refine ⟨.ref s.heap.objs.size, _, I.laid (t' := s.toks) (o := .lst (cutV xs lo hi)) (fun b ob q => Heap.get?_push_of_some _ q) (Nat.le_refl _) ?_, rfl, q _ (I.hok.fresh (Nat.le_refl _))⟩
  exact ⟨Nat.le_trans (cutV_length xs lo hi) hz, _, 0, (r.drop (HT.sIx xs.length 0 lo)).take (HT.sIx xs.length xs.length hi - HT.sIx xs.length 0 lo), Heap.get?_push_size _ rfl⟩
def flatV : V → Bool
  | .non => true
  | .bl _ => true
  | .int _ => true
  | .str _ => true
  | _ => false
def eqV : V → V → Bool
  | .non, .non => true
  | .bl a, .bl b => a == b
  | .bl a, .int b => (if a then 1 else 0) == b
  | .int a, .bl b => a == (if b then 1 else 0)
  | .int a, .int b => a == b
  | .str a, .str b => a == b
  | _, _ => false
theorem eqAt_V {A : Around} {s : Shared} {y x : V} {u v : Value} (ry : RelV y u) (rx : RelV x v) (fy : flatV y = true) (fx : flatV x = true) : SeqAt.EqAt A s u v (eqV y x) := by
  cases y with
  | non =>
    cases ry
    cases x with
    | non => cases rx; exact SeqAt.EqAt.same _
    | bl b => cases rx; exact SeqAt.EqAt.none_bool b
    | int b => obtain ⟨t, rfl⟩ := rx; exact SeqAt.EqAt.none_int b t
    | str b => obtain ⟨t, rfl⟩ := rx; exact SeqAt.EqAt.none_str b t
    | _ => exact absurd (show false = true from fx) Bool.false_ne_true
  | bl a =>
    cases ry
    cases x with
    | non => cases rx; exact SeqAt.EqAt.bool_none a
    | bl b => cases rx; exact SeqAt.EqAt.bool_bool a b
    | int b => obtain ⟨t, rfl⟩ := rx; exact SeqAt.EqAt.bool_int a b t
    | str b => obtain ⟨t, rfl⟩ := rx; exact SeqAt.EqAt.bool_str a b t
    | _ => exact absurd (show false = true from fx) Bool.false_ne_true
  | int a =>
    obtain ⟨t', rfl⟩ := ry
    cases x with
    | non => cases rx; exact SeqAt.EqAt.int_none a t'
    | bl b => cases rx; exact SeqAt.EqAt.int_bool a t' b
    | int b => obtain ⟨t, rfl⟩ := rx; exact SeqAt.EqAt.int_int a t' b t
    | str b => obtain ⟨t, rfl⟩ := rx; exact SeqAt.EqAt.int_str a t' b t
    | _ => exact absurd (show false = true from fx) Bool.false_ne_true
  | str a =>
    obtain ⟨t', rfl⟩ := ry
    cases x with
    | non => cases rx; exact SeqAt.EqAt.str_none a t'
    | bl b => cases rx; exact SeqAt.EqAt.str_bool a t' b
    | int b => obtain ⟨t, rfl⟩ := rx; exact SeqAt.EqAt.str_int a t' b t
    | str b => obtain ⟨t, rfl⟩ := rx; exact SeqAt.EqAt.str_str a t' b t
    | _ => exact absurd (show false = true from fx) Bool.false_ne_true
  | _ => exact absurd (show false = true from fy) Bool.false_ne_true
def eqU (x : V) (u : Value) : Bool := match u with
  | .none => eqV .non x
  | .bool b => eqV (.bl b) x
  | .int i _ => eqV (.int i) x
  | .str z _ => eqV (.str z) x
  | _ => false
theorem eqU_of {x y : V} {u : Value} (r : RelV y u) (f : flatV y = true) : eqU x u = eqV y x := by
  cases y with
  | non => cases r; rfl
  | bl b => cases r; rfl
  | int i => obtain ⟨t, rfl⟩ := r; rfl
  | str z => obtain ⟨t, rfl⟩ := r; rfl
  | _ => exact absurd (show false = true from f) Bool.false_ne_true
theorem any_eqU {x : V} : ∀ {xs : List V} {us : List Value}, Vals xs us → xs.all flatV = true → us.any (eqU x) = xs.any fun y => eqV y x
  | _, _, .nil, _ => rfl
  | y :: xs, u :: us, .cons r t, f => by
    rw [List.all_cons, Bool.and_eq_true] at f
    rw [List.any_cons, List.any_cons, eqU_of r f.1, any_eqU t f.2]
theorem mem_eqAt {A : Around} {s : Shared} {x : V} {v : Value} (rx : RelV x v) (fx : flatV x = true) : ∀ {xs : List V} {us : List Value}, Vals xs us → xs.all flatV = true → ∀ u ∈ us, SeqAt.EqAt A s u v (eqU x u)
  | _, _, .nil, _ => fun u hu => by cases hu
  | y :: xs, u :: us, .cons r t, f => fun u' hu => by
    rw [List.all_cons, Bool.and_eq_true] at f
    rcases List.mem_cons.mp hu with rfl | hu
    · rw [eqU_of r f.1]; exact eqAt_V r rx f.1 fx
    · exact mem_eqAt rx fx t f.2 u' hu
def inV (x : V) (xs : List V) : Bool := xs.any fun y => eqV y x
def rIn (K : PySem.W.Frag) (neg : Bool) : R2 := fun x y H Q => ∃ p xs, y = .ref p ∧ (SqL K H p xs ∨ SqT K H p xs) ∧ flatV x = true ∧ xs.all flatV = true ∧ Q (.bl (if neg then !inV x xs else inV x xs)) H
theorem op_in_seq : OpR X (compareOp .In) (rIn X.K false) := by
  intro pins s σ H x y v u Q I rx ry h
  obtain ⟨p, xs, rfl, hq, fx, fs, q⟩ := h
  cases ry
  rcases hq with hq | hq
  · obtain ⟨its, r, pl, hz⟩ := I.list hq
    refine SeqAt.in_listAt (eqU x) pl.isList (fun w hw => mem_eqAt rx fx r fs w (by simpa using hw)) ⟨.bl _, H, I, rfl, ?_⟩
    rw [show its.toArray.any (eqU x) = its.any (eqU x) by simp, any_eqU r fs]
    exact q
  · obtain ⟨its, r, pl, hz⟩ := I.tuple hq
    refine SeqAt.in_tupleAt (eqU x) pl (fun w hw => mem_eqAt rx fx r fs w (by simpa using hw)) ⟨.bl _, H, I, rfl, ?_⟩
    rw [show its.toArray.any (eqU x) = its.any (eqU x) by simp, any_eqU r fs]
    exact q
theorem call_len_seq : CallR X (.builtin "len") (fun xs H Q => ∃ p ys, xs = [.ref p] ∧ (SqL X.K H p ys ∨ SqT X.K H p ys) ∧ Q (.int ys.length) H) := by
  intro pins s σ H xs us Q I r h
  obtain ⟨p, ys, rfl, hq, q⟩ := h
  obtain ⟨u, rfl, rx⟩ := vals1 r
  cases rx
  have hn := line63
  rcases hq with hq | hq
  · obtain ⟨its, r', pl, hz⟩ := I.list hq
    have hlen := r'.length
    exact Calls.call_len_list pl.isList (by simp only [List.size_toArray] <;> (first|lia|omega)) ⟨.int ys.length, H, I.tok _, ⟨s.toks + 1, by rw [List.size_toArray, hlen]⟩, q⟩
  · obtain ⟨its, r', pl, hz⟩ := I.tuple hq
    have hlen := r'.length
    exact len_tuple pl (by simp only [List.size_toArray] <;> (first|lia|omega)) ⟨.int ys.length, H, I.tok _, ⟨s.toks + 1, by rw [List.size_toArray, hlen]⟩, q⟩
theorem call_list_of : CallR X (.type "list") (fun xs H Q => ∃ p ys, xs = [.ref p] ∧ (SqL X.K H p ys ∨ SqT X.K H p ys) ∧ ∀ l, H l = none → Q (.ref l) (upd H l (.lst ys))) := by
  intro pins s σ H xs us Q I r h
  obtain ⟨p, ys, rfl, hq, q⟩ := h
  obtain ⟨u, rfl, rx⟩ := vals1 r
  cases rx
  have fin : ∀ (its : List Value), Vals ys its → ys.length ≤ sizeLine → ∀ (h' : Heap) (c' : Nat), (∀ b o', s.heap.get? b = some o' → h'.get? b = some o') →
      h'.get? s.heap.objs.size = some { cls := .type "list", dict := none, data := .seq its.toArray c', slots := #[] } → EP X pins σ Q (.ref s.heap.objs.size) { s with heap := h' } := fun its r' hz h' c' kp e =>
    ⟨.ref s.heap.objs.size, _, I.laid (t' := s.toks) kp (Nat.le_refl _) (show ObjOk X.prog X.w _ h' _ (.lst ys) from ⟨hz, its, c', r', e⟩), rfl, q _ (I.hok.fresh (Nat.le_refl _))⟩
  rcases hq with hq | hq
  · obtain ⟨its, r', pl, hz⟩ := I.list hq
    have hlen := r'.length
    obtain ⟨o, ho, hc, n, hd⟩ := pl.isList
    exact call_list_seq p (.inl rfl) ho hc hd (fun h' c' kp e => fin its r' hz h' c' kp e) (by simp only [List.size_toArray] <;> (first|lia|omega))
  · obtain ⟨its, r', pl, hz⟩ := I.tuple hq
    have hlen := r'.length
    obtain ⟨o, ho, hc, n, hd⟩ := pl
    exact call_list_seq p (.inr rfl) ho hc hd (fun h' c' kp e => fin its r' hz h' c' kp e) (by simp only [List.size_toArray] <;> (first|lia|omega))
def tyV (K : PySem.W.Frag) (T : String) (x : V) (H : Hp) : Prop := match x with
  | .str _ => T = "str"
  | .int _ => T = "int"
  | .ref p => (T = "list" ∧ ∃ xs, SqL K H p xs) ∨ (T = "tuple" ∧ ∃ o, K.lookup p = some o ∧ o.cls = .type "tuple" ∧ o.dict = none) ∨
      (T = "dict" ∧ ((∃ kvs, H p = some (.dK kvs)) ∨ ∃ kvs, H p = some (.dT kvs))) ∨ (T = "set" ∧ ∃ S n, H p = some (.set S n))
  | _ => False
theorem tyV_is {pins : List (Addr × Obj)} {σ : St} {H : Hp} {s : Shared} {T : String} {x : V} {v : Value} (I : Inv X pins σ H s) (r : RelV x v) (ty : tyV X.K T x H) :
    s.TypeIs v T ∧ ∀ a, v = .ref a → ∃ ob, s.heap.get? a = some ob ∧ ob.dict = none := by
  cases x with
  | str z =>
    obtain ⟨t, rfl⟩ := r
    cases (show T = "str" from ty)
    exact ⟨typeIs_str s z t, fun _ e => nomatch e⟩
  | int i =>
    obtain ⟨t, rfl⟩ := r
    cases (show T = "int" from ty)
    exact ⟨typeIs_int s i t, fun _ e => nomatch e⟩
  | ref p =>
    cases r
    rcases ty with ⟨rfl, xs, hq⟩ | ⟨rfl, o, hk, hc, hd⟩ | ⟨rfl, hk⟩ | ⟨rfl, S, n, hk⟩
    · obtain ⟨its, _, pl, _⟩ := I.list hq
      refine ⟨pl.isList.typeIs, fun a e => ?_⟩
      cases e
      obtain ⟨o, n, e, c, hd, _⟩ := pl
      exact ⟨o, e, hd⟩
    · refine ⟨⟨o, I.kIn p o hk, hc⟩, fun a e => ?_⟩
      cases e
      exact ⟨o, I.kIn _ o hk, hd⟩
    · have z : ∃ o, s.heap.get? p = some o ∧ o.ExactDict := by
        rcases hk with ⟨kvs, hk⟩ | ⟨kvs, hk⟩
        · obtain ⟨_, _, _, _, o, _, _, e, ex, _⟩ := I.hok p _ hk
          exact ⟨o, e, ex⟩
        · obtain ⟨_, _, _, _, o, _, _, e, ex, _⟩ := I.hok p _ hk
          exact ⟨o, e, ex⟩
      obtain ⟨o, e, ex⟩ := z
      refine ⟨⟨o, e, ex.1⟩, fun a e2 => ?_⟩
      cases e2
      exact ⟨o, e, ex.2.1⟩
    · obtain ⟨o, _, _, _, e, ex, _⟩ := I.hok p _ hk
      refine ⟨⟨o, e, ex.1⟩, fun a e2 => ?_⟩
      cases e2
      exact ⟨o, e, ex.2.1⟩
  | _ => exact False.elim ty
def tBM0 (K : PySem.W.Frag) (T : String) (r : V → List V → Hp → VK → Prop) (to : TE) : TE := fun σ H Q => to σ H fun x H1 => tyV K T x H1 ∧ r x [] H1 Q
def tBM (K : PySem.W.Frag) (T : String) (r : V → List V → Hp → VK → Prop) (to : TE) (t : TA) : TE := fun σ H Q => to σ H fun x H1 => tyV K T x H1 ∧ t σ H1 fun xs H2 => r x xs H2 Q
variable {o e : Expr} {es : List Expr} {to : TE} {t : TA} {name : Str} {apos cpos : Pos} {T id : String} {r : V → List V → Hp → VK → Prop}
theorem pe_bm (pa : PlainAttrs T) (slot : Slot T name id) (hty : typeOf (.builtin id) = pure (.type "method_descriptor")) (hm : MtR X id r) (ho : PE X o to) (ha : PA X (e :: es) t)
    (hbase : attributeBase o name X.env (eval o X.env) = eval o X.env := by rfl)
    (hfew : ((backTo cpos (starEach (e :: es) X.env)).all (fun x => !x.1) && (backToKw cpos (keywordEach [] X.env)).all (fun x => x.1.isSome)
      && decide ((e :: es).length + ([] : List Keyword).length + (if ([] : List Keyword).isEmpty then 0 else 1) < 30)) = true := by rfl)
    (hline : (apos.endLine == cpos.line) = true := by rfl) (hs : starEach (e :: es) X.env = (false, eval e X.env) :: starEach es X.env := by rfl) (hplain : (backTo cpos (starEach es X.env)).any (·.1) = false := by rfl) :
    PE X (.Call (.Attribute o name apos) (e :: es) [] cpos) (tBM X.K T r to t) := by
  intro pins s σ H Q I h
  refine wpAny_Call_method_late hbase hfew hline rfl (thn (ho pins s σ H _ I h) fun v s1 ⟨x, H1, I1, r1, ty, q1⟩ => ?_)
  obtain ⟨h1, h2⟩ := tyV_is I1 r1 ty
  refine ⟨T, id, pa, slot, hty, h1, h2, ?_⟩
  have hA := ha cpos pins s1 σ H1 _ I1 q1
  rw [hs] at hA ⊢
  refine Calls.callWith_builtin (by show (false || (backTo cpos (starEach es X.env)).any (·.1)) = false; rw [hplain] <;> rfl) (Calls.evalArgs_plain ?_)
  exact thn hA fun us s2 ⟨vs, H2, I2, r2, q2⟩ => hm pins s2 σ H2 x vs v us Q I2 r1 r2 q2
/- xs.append(e), list.index on a module's tuple .. are MtR facts of 06m -/
end
end L2
namespace L2
open PySem PySem.Spec PyProof.Rows
def MtM (X : Cx) (id : String) (r : V → List V → Hp → VK → Prop) : Prop :=
  ∀ (pins : List (Addr × Obj)) (s : Shared) (σ : St) (H : Hp) (x : V) (xs : List V) (v : Value) (us : List Value) (Q : VK), Inv X pins σ H s → RelV x v → Vals xs us → r x xs H Q →
    wpAny (model X.prog X.w) X.A (call (.builtin id) (v :: us)) (EP X pins σ Q) X.xe s
theorem Vals.one : ∀ {x : V} {us : List Value}, Vals [x] us → ∃ u, us = [u] ∧ RelV x u
  | _, _, .cons r .nil => ⟨_, rfl, r⟩
theorem Vals.two : ∀ {x y : V} {us : List Value}, Vals [x, y] us → ∃ u v, us = [u, v] ∧ RelV x u ∧ RelV y v
  | _, _, _, .cons r (.cons q .nil) => ⟨_, _, rfl, r, q⟩
theorem Vals.zero : ∀ {us : List Value}, Vals [] us → us = []
  | _, .nil => rfl
theorem Vals.rep {xs : List V} {us : List Value} (h : Vals xs us) : ∀ k : Nat, Vals (List.replicate k xs).flatten (List.replicate k us).flatten
  | 0 => .nil
  | k + 1 => by
    rw [List.replicate_succ, List.replicate_succ, List.flatten_cons, List.flatten_cons]
    exact Vals.append h (Vals.rep h k)
theorem foldl_rep (its : List Value) : ∀ (k : Nat) (acc : List Value),
    List.foldl (fun x1 x2 => x1 ++ x2) acc.toArray (List.replicate k its.toArray) = (acc ++ (List.replicate k its).flatten).toArray
  | 0, acc => by simp
  | k + 1, acc => by
    have e : acc.toArray ++ its.toArray = (acc ++ its).toArray := by simp
    have e2 : (acc ++ its) ++ (List.replicate k its).flatten = acc ++ (List.replicate (k + 1) its).flatten := by
      rw [List.replicate_succ, List.flatten_cons, List.append_assoc]
    rw [← e2, ← foldl_rep its k (acc ++ its), ← e, List.replicate_succ, List.foldl_cons]
section
variable {X : Cx} {pins : List (Addr × Obj)} {σ : St} {H : Hp} {s : Shared} {l b : Addr} {xs ys zs : List V}
theorem Inv.lset {its its' : List Value} {n : Nat} {f : Array Value → Array Value} {t' : Nat} (I : Inv X pins σ H s) (hH : H l = some (.lst xs))
    (e : s.heap.get? l = some { cls := .type "list", data := .seq its.toArray n }) (hf : f its.toArray = its'.toArray) (hv : Vals ys its') (hz : ys.length ≤ sizeLine) :
    Inv X pins σ (upd H l (.lst ys)) { s with heap := s.heap.update l (Obj.mapSeq f), toks := t' } := by
  have q := PySem.IsL.update e f
  rw [hf] at q
  refine I.write (x := l) (e := l) (by rw [hH]; exact trivial) (.inl rfl) (fun b' u hb hu => (Heap.get?_update_other s.heap (Obj.mapSeq f) (Ne.symm hb)).trans hu) ⟨_, q⟩ ?_
  exact ⟨hz, its', _, hv, q⟩
theorem Inv.lnew {its : List Value} {t' : Nat} (I : Inv X pins σ H s) (hv : Vals ys its) (hz : ys.length ≤ sizeLine) :
    Inv X pins σ (upd H s.heap.objs.size (.lst ys)) { s with heap := s.heap.push { cls := .type "list", data := .seq its.toArray }, toks := t' } :=
  I.laid (fun _ _ q => Heap.get?_push_of_some _ q) (Nat.le_refl _) ⟨hz, its, 0, hv, Heap.get?_push_size _ rfl⟩
theorem Inv.fresh (I : Inv X pins σ H s) : H s.heap.objs.size = none := I.hok.fresh (Nat.le_refl _)
theorem Inv.lstM (I : Inv X pins σ H s) (hH : H l = some (.lst xs)) : xs.length ≤ sizeLine ∧ ∃ (its : List Value) (n : Nat), Vals xs its ∧ xs.length = its.length ∧ s.heap.get? l = some { cls := .type "list", data := .seq its.toArray n } := by
  obtain ⟨z, its, n, r, e⟩ := I.hok l _ hH
  exact ⟨z, its, n, r, r.length, e⟩
theorem notLongL {n : Nat} (h : n ≤ sizeLine) : Builtin.List.listTooLong n = false := by
  unfold Builtin.List.listTooLong
  exact decide_eq_false (by (first|lia|omega))
end
section
variable {X : Cx}
def rAppend : V → List V → Hp → VK → Prop := fun x vs H Q => ∃ l xs y, x = .ref l ∧ vs = [y] ∧ H l = some (.lst xs) ∧ xs.length < sizeLine ∧ Q .non (upd H l (.lst (xs ++ [y])))
theorem mt_append : MtM X "list.append" rAppend := by
  intro pins s σ H x vs v us Q I rx rv h
  obtain ⟨l, xs, y, rfl, rfl, hH, hz, q⟩ := h
  cases rx
  obtain ⟨u, rfl, ru⟩ := rv.one
  obtain ⟨z, its, n, r, hl, e⟩ := I.lstM hH
  refine call_meets F.slot_list_append ⟨_, e, rfl⟩ F.entry_list_append (F.args_list_append_2 _ _) (PySem.list_append l its.toArray n u (by rw [List.size_toArray]; (first|lia|omega))) ⟨e, ?_⟩
  refine ⟨.non, _, I.lset (its' := its ++ [u]) hH e (by simp) (r.append (.cons ru .nil)) ?_, rfl, q⟩
  rw [List.length_append, List.length_singleton]
  (first|lia|omega)
def rExtend : V → List V → Hp → VK → Prop := fun x vs H Q => ∃ l b xs zs, x = .ref l ∧ vs = [.ref b] ∧ H l = some (.lst xs) ∧ H b = some (.lst zs) ∧ xs.length + zs.length ≤ sizeLine ∧ Q .non (upd H l (.lst (xs ++ zs)))
def rPop : V → List V → Hp → VK → Prop := fun x vs H Q => ∃ l xs y, x = .ref l ∧ vs = [] ∧ H l = some (.lst xs) ∧ xs[xs.length - 1]? = some y ∧ Q y (upd H l (.lst xs.dropLast))
def rPopAt : V → List V → Hp → VK → Prop := fun x vs H Q => ∃ l xs i k y, x = .ref l ∧ vs = [.int i] ∧ H l = some (.lst xs) ∧ -(2 ^ 63) ≤ i ∧ i < 2 ^ 63 ∧ seqIndex? i xs.length = some k ∧ xs[k]? = some y ∧ Q y (upd H l (.lst (xs.eraseIdx k)))
def rReverse : V → List V → Hp → VK → Prop := fun x vs H Q => ∃ l xs, x = .ref l ∧ vs = [] ∧ H l = some (.lst xs) ∧ Q .non (upd H l (.lst xs.reverse))
def rClear : V → List V → Hp → VK → Prop := fun x vs H Q => ∃ l xs, x = .ref l ∧ vs = [] ∧ H l = some (.lst xs) ∧ Q .non (upd H l (.lst []))
def rCat : R2 := fun x y H Q => ∃ l b xs zs, x = .ref l ∧ y = .ref b ∧ H l = some (.lst xs) ∧ H b = some (.lst zs) ∧ xs.length + zs.length ≤ sizeLine ∧ ∀ p, H p = none → Q (.ref p) (upd H p (.lst (xs ++ zs)))
theorem op_cat : OpR X (binaryOp .Add) rCat := by
  intro pins s σ H x y v u Q I rx ry h
  obtain ⟨l, b, xs, zs, rfl, rfl, hH, hB, hz, q⟩ := h
  cases rx
  cases ry
  obtain ⟨z, its, n, r, hl, e⟩ := I.lstM hH
  obtain ⟨z2, its2, n2, r2, hl2, e2⟩ := I.lstM hB
  refine PySem.P.add_list e e2 ?_ (by rw [List.size_toArray, List.size_toArray]; (first|lia|omega))
  have ea : its.toArray ++ its2.toArray = (its ++ its2).toArray := by simp
  rw [ea]
  exact ⟨.ref _, _, I.lnew (t' := s.toks) (r.append r2) (by rw [List.length_append]; (first|lia|omega)), rfl, q _ I.fresh⟩
def rRep : R2 := fun x y H Q => ∃ l k xs, x = .ref l ∧ y = .int k ∧ H l = some (.lst xs) ∧ -(2 ^ 63) ≤ k ∧ k < 2 ^ 63 ∧ xs.length * k.toNat ≤ sizeLine ∧
  ∀ p, H p = none → Q (.ref p) (upd H p (.lst (List.replicate k.toNat xs).flatten))
theorem len_rep {α : Type} (xs : List α) (k : Nat) : (List.replicate k xs).flatten.length = k * xs.length := by
  induction k with
  | zero => simp
  | succ k ih => rw [List.replicate_succ, List.flatten_cons, List.length_append, ih, Nat.succ_mul, Nat.add_comm]
theorem op_rep : OpR X (binaryOp .Mult) rRep := by
  intro pins s σ H x y v u Q I rx ry h
  obtain ⟨l, k, xs, rfl, rfl, hH, h1, h2, hz, q⟩ := h
  cases rx
  obtain ⟨t, rfl⟩ := ry
  obtain ⟨z, its, n, r, hl, e⟩ := I.lstM hH
  have hlen : its.toArray.size * k.toNat ≤ sizeLine := by rw [List.size_toArray, ← hl]; exact hz
  have hcap : ¬ its.toArray.size * k.toNat > (2 ^ 63 - 1) / 8 := by
    have : (sizeLine : Nat) ≤ (2 ^ 63 - 1) / 8 := by decide
    (first|lia|omega)
  have hfit : ¬ (!Builtin.List.listFitsIndex k) = true := by
    rw [fitsIndex_both h1 h2]
    exact Bool.false_ne_true
  have hlong : ¬ Builtin.List.listTooLong (its.toArray.size * k.toNat) = true := by
    rw [notLongL hlen]
    exact Bool.false_ne_true
  have hnew : List.foldl (fun x1 x2 => x1 ++ x2) #[] (List.replicate (if its.toArray.isEmpty = true then 0 else k.toNat) its.toArray) = (List.replicate k.toNat its).flatten.toArray := by
    have f0 : ∀ m : Nat, List.foldl (fun x1 x2 => x1 ++ x2) #[] (List.replicate m its.toArray) = (List.replicate m its).flatten.toArray := fun m => by
      have := foldl_rep its m []
      rw [List.nil_append] at this
      exact this
    rw [f0]
    cases its with
    | nil => simp
    | cons a r' => rw [if_neg (by simp)]
  refine wpAny_binaryOp_repeat_ref (T := "list") (U := "int") (by decide) ⟨_, e, rfl⟩ (fun s' => typeIs_int s' k t) noFill_list_mul F.fills_int_mul F.slot_int_rmul repeat_list F.slot_int_index.lookup
    (call_meets F.slot_int_rmul (typeIs_int s k t) F.entry_int_rmul (F.args_int_rmul_2 _ _) (int___rmul___int_list k t l its.toArray n)
      ⟨e, rfl, ⟨_, e, rfl⟩, call_meets F.slot_list_mul ⟨_, e, rfl⟩ F.entry_list_mul (F.args_list_mul_2 _ _) (AutoListH.list___mul___list_int_3 l its.toArray n k t hfit hcap hlong) ⟨e, ?_⟩⟩)
  rw [hnew]
  exact ⟨.ref _, _, I.lnew (t' := s.toks) (r.rep k.toNat) (by rw [len_rep, Nat.mul_comm]; exact hz), rfl, q _ I.fresh⟩
end
section
variable {prog : Program} {w : World} {A : Around} {E : Value → Shared → Prop} {s : Shared}
end
section
variable {X : Cx}
end
end L2
namespace Att
open PySem PySem.W PySem.Calls PyProof.Rows
theorem ints_of_wellAll {P : Params} {h : Heap} : ∀ (ns : List Int) (vs : List Value), WellAll P h vs (ns.map WData.int) → IntsAre vs ns := by
  intro ns
  induction ns with
  | nil =>
    intro vs w
    rw [List.map_nil] at w
    cases w
    exact .nil
  | cons n ns ih =>
    intro vs w
    rw [List.map_cons] at w
    cases w with
    | cons a b =>
      cases a
      exact .cons _ _ (ih _ b)
theorem script_of {l : OpenLaw} {n : Nat} (hn : l.most = some n) {P : Params} {h : Heap} {args : List WData} {vals : List Value}
    (hpre : l.row.toRowW.claim.pre args = true) (hwl : WellAll P h vals args) :
    ∃ a vs ns, vals = [Value.ref a] ∧ args = [WData.list (ns.map WData.int)] ∧ h.get? a = some { cls := .type "list", data := .seq vs.toArray } ∧ IntsAre vs ns ∧ ns.length ≤ n := by
  have hsh : WShape.hasAll [] args [.list .int] = true := (pre_splitW hpre).1
  have hc : l.pre.holds [] { args := args } = true := (pre_splitW hpre).2
  obtain ⟨d, r, rfl, h1, h2⟩ := hasAllW_cons hsh
  obtain rfl := hasAllW_nil h2
  obtain ⟨xs, rfl, h3⟩ := hasW_list h1
  obtain ⟨ns, rfl⟩ := items_int h3
  have hlen : ns.length ≤ n := by
    unfold OpenLaw.pre at hc
    have h4 : (WTm.not (.lt (.lit (.int (n : Int))) (.len (.arg 0)))).holds [] { args := [.list (ns.map .int)] } = true := by
      have h4 := (holds_andW hc).1
      rw [hn] at h4
      exact h4
    have h5 := condW_of h4 (w_not (w_lt w_lit (w_len_list (w_arg rfl))))
    rw [List.length_map] at h5
    refine Nat.le_of_not_lt fun q => ?_
    have q' : (n : Int) < ((ns.length : Nat) : Int) := by (first|lia|omega)
    first
      | (rw [decide_eq_true q'] at h5; exact absurd h5 (by decide))
      | (simp at h5; (first|lia|omega))
  cases hwl with
  | cons w1 w2 =>
    cases w2
    cases w1 with
    | list ho hall => exact ⟨_, _, ns, rfl, rfl, ho, ints_of_wellAll ns _ hall, hlen⟩
theorem post_true (l : OpenLaw) (args : List WData) : l.row.toRowW.claim.post args (.bool true) args = true :=
  postW_of (r := l.row.toRowW) (X := (true == true))
    (show WShape.has [] (.bool true) .bool = true by first | rfl | decide | simp [WShape.has, WShape.arms, WShape.armsAll])
    (show (WTm.eq .res (.lit (.bool true))).value [] { args := args, res := some (.bool true), after := args } = some (.bool (true == true)) from w_eq_bool (w_res rfl) w_lit) rfl
section
variable {prog : Program} {w : World} {A : Around} {E : Value → Shared → Prop} {s : Shared} {K : Frag}
def noObjs (h : Heap) : Heap := { h with objs := #[] }
def ledger (h : Heap) (L d : Addr) : List (Addr × Obj) := (List.range h.objs.size).filterMap fun a => if a = L ∨ a = d then none else (h.get? a).map fun o => (a, o)
end
end Att
namespace L2
open PySem PySem.Spec PyProof.Rows
theorem vals_ints : ∀ {vs : List Value} {ns : List Int}, IntsAre vs ns → Vals (ns.map V.int) vs
  | _, _, .nil => .nil
  | _, _, .cons n t h => .cons ⟨t, rfl⟩ (vals_ints h)
def Only (H : Hp) : Prop := ∀ b, H b = none ∨ ∃ o xs, H b = some (.frz o (.lst xs))
theorem law_call {P : Program} {w : World} {K : PySem.W.Frag} {mg mb : Str → Option Value} {CX : CXT} {k : Nat} {fa a : Addr} {fd : FuncData} {x : Str} {sp : Sp} {s₁ : Shared} {vs : List Value} {ns : List Int}
    (KX : K.In s₁.heap) (hns : s₁.heap.Ns mainGlobals mg) (hb : s₁.heap.Ns builtinsNs mb) (hbb : ∀ x : Str, x ≠ "__name__" → mb x = bootBuiltins x) (hlim : s₁.heap.NoLimit) (hg : s₁.gens = #[])
    (ha : s₁.heap.get? a = some { cls := .type "list", data := .seq vs.toArray }) (hi : IntsAre vs ns) (hl : ns.length ≤ sizeLine) (hr : Room k callerA)
    (F : ∀ base : Heap, K.In base → base.Ns mainGlobals mg → FnOk P w K mg base CX k fa fd [x] sp) (hbind : ∀ (s : Shared) (u : Value), BindsTo s fd ⟨[u], []⟩ [(x, u)])
    (hsp : ∀ H : Hp, Only H → SqL K H a (ns.map V.int) → sp [.ref a] H (fun v _ => v = .bl true) fun _ _ _ => False)
    (hCX : ∀ H e s', CX [] H s₁ (fun _ _ _ => False) e s' → False) :
    codeAny (model P w) callerA (.call (.ref fa) ⟨[.ref a], []⟩) (fun r s' => r = .ok (.ret (.bool true)) ∧ OldK s₁.heap s'.heap ∧ s'.os = s₁.os ∧ AllBare s'.gens) s₁ := by
  have rv := vals_ints hi
  have lenV := hi.length
  have core : ∀ H : Hp, Only H → SqL K H a (ns.map V.int) → HOk P w H s₁.heap → (∀ b, H b ≠ none → b = a) → (H a ≠ none → K.lookup a = none) →
      codeAny (model P w) callerA (.call (.ref fa) ⟨[.ref a], []⟩) (fun r s' => r = .ok (.ret (.bool true)) ∧ OldK s₁.heap s'.heap ∧ s'.os = s₁.os ∧ AllBare s'.gens) s₁ := by
    intro H hO hS hok hA hK
    have base_of : ∀ {b : Addr} {o : Obj}, s₁.heap.get? b = some o → H b = none → (hidT s₁.heap H).get? b = some o := fun e n => hidT_get e n
    have noA : ∀ {b : Addr} {o : Obj} {es : Array DictEntry} {ep : Nat}, s₁.heap.get? b = some o → o.data = .dict es ep → H b = none := fun {b o es ep} e d => by
      cases q : H b with
      | none => rfl
      | some u =>
        have e' : b = a := hA b (by rw [q]; simp)
        subst e'
        rw [ha] at e; cases e
        have d' : Data.seq vs.toArray _ = Data.dict es ep := d
        cases d'
    have nsK : ∀ {b : Addr} {m : Str → Option Value}, s₁.heap.Ns b m → (hidT s₁.heap H).Ns b m := fun {b m} ⟨o, es, ep, e, d, r⟩ => ⟨o, es, ep, base_of e (noA e d), d, r⟩
    have hKb : K.In (hidT s₁.heap H) := fun b o e => base_of (KX b o e) (by
      cases q : H b with
      | none => rfl
      | some u =>
        have e' : b = a := hA b (by rw [q]; simp)
        subst e'
        rw [hK (by rw [q]; simp)] at e; cases e)
    have hM : Mod K mg (hidT s₁.heap H) := ⟨hKb, nsK hns, ⟨mb, nsK hb, hbb⟩, let ⟨mc, h1, h2⟩ := hlim; ⟨mc, nsK h1, h2⟩⟩
    have e0 : Env0 P w K mg (hidT s₁.heap H) callerA [] s₁ H := ⟨rfl, hM, fun b o e => of_hidT e, Nat.le_of_eq (hidT_size _ _), trivial, fun b hb => absurd (show b ∈ ([] : List Addr) from hb) (by simp), hok, .of_eq hg⟩
    refine codeAny_mono ((F _ hKb (nsK hns)).run callerA [] s₁ H ⟨[.ref a], []⟩ [.ref a] [.ref a] _ _ hr e0 (hbind s₁ (.ref a)) (.cons rfl .nil) (hsp H hO hS)) fun r s' h => ?_
    cases r with
    | error e => exact (hCX H e s' h).elim
    | ok fl =>
      cases fl with
      | next => exact False.elim h
      | brk => exact False.elim h
      | cont => exact False.elim h
      | ret u =>
        obtain ⟨v, H', os, bare, un, hok', r', q⟩ := h
        have q' : v = .bl true := q
        subst q'
        obtain rfl : u = Value.bool true := r'
        refine ⟨rfl, OldK.of_keep fun b o e => ?_, os, bare⟩
        cases q : H b with
        | none => exact un.keep b o e q (by intro z; exact absurd (show b ∈ ([] : List Addr) from z) (by simp)) (by simp)
        | some u =>
          rcases hO b with z | ⟨ob, xs, z⟩
          · rw [q] at z; cases z
          · have z2 := un.frzs b ob _ z
            obtain ⟨e1, _⟩ := hok b _ z
            obtain ⟨e2, _⟩ := hok' b _ z2
            rw [e] at e1; cases e1
            exact e2
  cases hk : K.lookup a with
  | some o =>
    have e := KX a o hk
    rw [ha] at e
    cases e
    refine core (fun _ => none) (fun _ => .inl rfl) (.inr ⟨_, vs.toArray, _, hk, rfl, rfl, rfl, by rw [List.size_toArray, lenV]; exact hl, by simpa using rv⟩) (fun b u z => by have z' : (none : Option HO) = some u := z; cases z') (fun b z => absurd rfl z) fun z => absurd rfl z
  | none =>
    refine core (fun b => if b = a then some (.frz { cls := .type "list", data := .seq vs.toArray } (.lst (ns.map V.int))) else none) (fun b => ?_) (.inl (.inr ⟨{ cls := .type "list", data := .seq vs.toArray }, if_pos rfl⟩)) (fun b u z => ?_) (fun b z => ?_) fun _ => hk
    · by_cases hb : b = a
      · exact .inr ⟨_, _, if_pos hb⟩
      · exact .inl (if_neg hb)
    · by_cases hb : b = a
      · have z' := (if_pos hb).symm.trans z
        cases z'
        subst hb
        exact ⟨ha, by rw [List.length_map]; exact hl, vs, _, rv, ha⟩
      · have z' := (if_neg hb).symm.trans z
        cases z'
    · by_cases hb : b = a
      · exact hb
      · exact absurd (if_neg hb) z
end L2
namespace L2
open PySem PySem.Spec PyProof.Rows
abbrev KOf {K : PySem.W.Frag} {h : Heap} (_ : K.In h) : PySem.W.Frag := K
end L2
/- THE LAST THEOREM (shape; LID, My.* are yours):
   My.Adr: a structure of the addresses that your layer names (classes, functions); My.Txt K t: a structure (Prop) of the equations over K;
   My.txt_mk : {K} {implicit addresses ..} (e1 : nsIn K mainGlobals "law" = some (some (.ref f))) (e2 : K.lookup f = some ⟨oc, od, .func (fnOf "law" "law" params body scope dV kV doc pm an cdv ct), sl⟩) (e3 : codeIn K cdv "law" = true) .. : ∃ t, My.Txt K t
set_option maxRecDepth 100000 in
set_option maxHeartbeats 0 in
theorem PySem.Challenge.cw_LID_holds : PySem.Challenge.rw_LID.Holds := by
  w_on; o_law; k_head; (case hw => w_witness2)
  k_fill
  refine L2.walk_of (l := PySem.Challenge.rw_LID) (n := 63) (k := 40) (x := "script") (CX := fun w => ..) (sp := fun _ => My.sp_law) rfl (by decide) rfl ⟨rfl, by decide, by decide⟩ (fun w h Y => PySem.W.kIn_of Y) ?F ?S ?C
  case F =>
    intro w mg fa h KX G hmg
    have T : ∃ t, My.Txt (L2.KOf KX) t := by
      dsimp only [L2.KOf]                          -- K must stand as «<heap const> w.params» for k_is
      refine' My.txt_mk ?e1 ?e2 ?e3 ..
      (case e1 => PySem.W.k_is)                    -- in the order: a name -> its address -> its object -> its parts
      (case e2 => PySem.W.k_is)
      ..
    obtain ⟨t, T⟩ := T
    have e0 := hmg.symm.trans (PySem.W.mg_of KX G T.law)
    cases e0                                       -- fa is the law's own address
    exact ⟨_, fun s u => .of_eq rfl, fun base kb nb => My.law_fn T kb nb⟩     -- if «.of_eq rfl» comes too early: refine' ⟨_, ?b, fun base kb nb => My.law_fn T kb nb⟩; exact fun s u => .of_eq rfl
  case S => exact fun w H a ns hl hO hS => ..
  case C => exact ..
(the tactic k_is has no namespace: write k_is) -/
namespace L2
open PySem PySem.Spec PyProof.Rows
def inClass (s : Stmt) (j : Nat) : Stmt := match s with
  | .ClassDef _ _ _ body _ _ _ _ _ _ _ => body.getD j (.Pass ⟨0, 0, 0, 0⟩)
  | _ => .Pass ⟨0, 0, 0, 0⟩
def defArgs (s : Stmt) : Arguments := match s with
  | .FunctionDef _ a _ _ _ _ _ _ _ _ => a
  | _ => { posonlyargs := [], args := [], vararg := none, kwonlyargs := [], kw_defaults := [], kwarg := none, defaults := [] }
def defBody (s : Stmt) : List Stmt := match s with
  | .FunctionDef _ _ b _ _ _ _ _ _ _ => b
  | _ => []
def defScope (s : Stmt) : Scope := match s with
  | .FunctionDef _ _ _ _ _ _ sc _ _ _ => sc
  | _ => { kind := .function, names := [], isGenerator := false, isCoroutine := false }
abbrev CX0 : CXT := fun _ _ _ _ _ _ => False
abbrev E0 : XK := fun _ _ _ => False
theorem pass0 {X : Cx} : Passes CX0 X E0 := fun _ _ _ _ _ _ _ h => h.elim
structure Fun (K : PySem.W.Frag) (x qual : Str) (st : Stmt) (f : Addr) (fd : FuncData) : Prop where
  ex : ∃ (oc : Value) (od : Option Addr) (kV doc pm : Value) (an : Option Addr) (cdv ct : Value) (osl : Array (Option Value)),
    fd = PySem.W.fnOf x qual (defArgs st) (defBody st) (defScope st) .none kV doc pm an cdv ct ∧ K.lookup f = some ⟨oc, od, .func fd, osl⟩ ∧ PySem.W.codeIn K cdv qual = true
  kp : PySem.W.keepIn K (.ref f) = true
section
variable {P : Program} {w : World} {K : PySem.W.Frag} {mg : Str → Option Value} {base : Heap}
theorem Fun.ok {x qual : Str} {st : Stmt} {f : Addr} {fd : FuncData} {N ps : List Str} {k : Nat} {sp : Sp} (F : Fun K x qual st f fd) (S : FnScope N ps (defScope st)) (len : ∀ vs H Q E, sp vs H Q E → vs.length = ps.length)
    (hbody : ∀ (cdv : Value) (A : Around) (outer : List Env) (s : Shared) (H : Hp) (vs : List V) (Q : VK) (E : XK), Room k (A.deeper (envOfC qual (defScope st) s.heap.objs.size f cdv)) → sp vs H Q E →
      ∃ t, PSs (cxOf CX0 P w K mg base N qual (defScope st) f cdv A outer s H E).nox (defBody st) t ∧ t { nx := fun _ H' => Q .non H', rt := Q } (start N vs) H) : FnOk P w K mg base CX0 (k + 1) f fd ps sp := by
  obtain ⟨oc, od, kV, doc, pm, an, cdv, ct, osl, rfl, lk, hcd⟩ := F.ex
  refine fn_of lk hcd S len fun A outer s H vs Q E hr hsp => ?_
  obtain ⟨t, h, q⟩ := hbody cdv A outer s H vs Q E hr hsp
  exact ⟨t, h.nox, q⟩
theorem Fun.binds {x qual : Str} {st : Stmt} {f : Addr} {fd : FuncData} {ps : List Str} (F : Fun K x qual st f fd)
    (h : ∀ (kV doc pm : Value) (an : Option Addr) (cdv ct : Value) (us : List Value), us.length = ps.length → bindArgs (PySem.W.fnOf x qual (defArgs st) (defBody st) (defScope st) .none kV doc pm an cdv ct) ⟨us, []⟩ = pure (ps.zip us)) : Binds K fd ps [] := by
  obtain ⟨oc, od, kV, doc, pm, an, cdv, ct, osl, rfl, lk, hcd⟩ := F.ex
  exact .all (h kV doc pm an cdv ct)
theorem fun_mk {x qual : Str} {st : Stmt} {f : Addr} {oc : Value} {od an : Option Addr} {osl : Array (Option Value)} {kV doc pm cdv ct : Value} (l : K.lookup f = some ⟨oc, od, .func (PySem.W.fnOf x qual (defArgs st) (defBody st) (defScope st) .none kV doc pm an cdv ct), osl⟩)
    (c : PySem.W.codeIn K cdv qual = true) (k : PySem.W.keepIn K (.ref f) = true) : Fun K x qual st f (PySem.W.fnOf x qual (defArgs st) (defBody st) (defScope st) .none kV doc pm an cdv ct) := ⟨⟨oc, od, kV, doc, pm, an, cdv, ct, osl, rfl, l, c⟩, k⟩
end
theorem small1000 {n : Nat} (h : n ≤ 1000) : n < sizeLine := Nat.lt_of_le_of_lt h (by decide)
section
variable {X : Cx}
theorem pv (i : Nat) {x : Str} {pos : Pos} (hN : X.N[i]? = some x := by rfl) (hv : Vis X.env.scope x := by first | exact Or.inl rfl | exact Or.inr (Or.inl rfl) | exact Or.inr (Or.inr rfl)) (hd : (x == ("__debug__" : Str)) = false := by decide)
    (hcd : (x == ("__classdict__" : Str)) = false := by decide) : PE X (.Name x pos) (tVar i) := pe_var hN hv hd hcd
end
theorem iteF {A B : Prop} (h : B) : if false = true then A else B := by
  rw [if_neg Bool.false_ne_true]
  exact h
theorem iteT {A B : Prop} (h : A) : if true = true then A else B := by
  rw [if_pos rfl]
  exact h
theorem ite2 {c A B : Prop} [Decidable c] (h1 : c → A) (h2 : ¬ c → B) : if c then A else B := by
  by_cases h : c
  · rw [if_pos h]
    exact h1 h
  · rw [if_neg h]
    exact h2 h
def Same (H H' : Hp) : Prop := ∀ b o, H b = some o → H' b = some o
theorem Same.refl (H : Hp) : Same H H := fun _ _ h => h
theorem Same.trans {H H1 H2 : Hp} (a : Same H H1) (b : Same H1 H2) : Same H H2 := fun c o h => b c o (a c o h)
theorem Same.free {H H' : Hp} (e : Same H H') {l : Addr} (h : H' l = Option.none) : H l = Option.none := by
  cases q : H l with
  | none => rfl
  | some o =>
    rw [e l o q] at h
    cases h
theorem Same.seq {K : PySem.W.Frag} {H H' : Hp} {a : Addr} {xs : List V} (e : Same H H') (h : SqL K H a xs) : SqL K H' a xs := by
  rcases h with (h | ⟨o, h⟩) | h
  · exact .inl (.inl (e _ _ h))
  · exact .inl (.inr ⟨o, e _ _ h⟩)
  · exact .inr h
end L2
namespace L2
open PySem PySem.Spec PyProof.Rows
section
variable {X : Cx}
theorem op_fdivP : OpR X (binaryOp .FloorDiv) (rI (fun _ j => 0 < j ∧ j.natAbs.log2 < 9000) fun i j => .int (i / j)) := opI fun i j _ _ _ _ _ hc q => by
  have h1 : (0 : Int) < j := hc.1
  exact floordiv_int (by (first|lia|omega)) (by rw [Int.fdiv_eq_ediv_of_nonneg i (by (first|lia|omega))]; exact q) (.inl (PyProof.noPylong_of_log2 hc.2))
theorem op_mulG : OpR X (binaryOp .Mult) (rI IntMulOk fun i j => .int (i * j)) := opI fun _ _ _ _ _ _ _ hc q => mul_int q hc
theorem mulR {i j : Int} (h1 : -(2 ^ 64) < j) (h2 : j < 2 ^ 64) : IntMulOk i j := .of_right (intBits_le_64 h1 h2)
theorem mulL {i j : Int} (h1 : -(2 ^ 64) < i) (h2 : i < 2 ^ 64) : IntMulOk i j := .of_left (intBits_le_64 h1 h2)
theorem mulB {i j : Int} (m n : Nat) (h1 : i.natAbs < 2 ^ m) (h2 : j.natAbs < 2 ^ n) (h : m + n ≤ 134217728 := by decide) : IntMulOk i j := .of_le (intBits_le_iff.mpr h1) (intBits_le_iff.mpr h2) h
theorem log_lt {j : Int} (m : Nat) (h0 : j ≠ 0) (h : j.natAbs < 2 ^ m) (hm : m ≤ 9000 := by decide) : j.natAbs.log2 < 9000 :=
  Nat.lt_of_lt_of_le ((Nat.log2_lt (by (first|lia|omega))).mpr h) hm
theorem boot_int : bootBuiltins "int" = some (.type "int") := by decide +kernel
theorem boot_bool : bootBuiltins "bool" = some (.type "bool") := by decide +kernel
theorem boot_list : bootBuiltins "list" = some (.type "list") := by decide +kernel
theorem boot_ValueError : bootBuiltins "ValueError" = some (.type "ValueError") := by decide +kernel
theorem kit_int_bool (K : PySem.W.Frag) : PySem.W.kitOne K (.type "int") (.type "bool") = some false := by first | rfl | kernel_rfl
def ExcIs (a : Addr) (c : Value) (h : Heap) : Prop := ∃ oe vs, h.get? a = some oe ∧ oe.cls = c ∧ oe.data = .fields vs
def excO (a : Addr) (c : Value) : HO := .ext (ExcIs a c)
structure ExcCls (K : PySem.W.Frag) (c : Value) : Prop where
  kit : ∀ a : Addr, PySem.W.KitX K (.ref a) c (ExcIs a c)
inductive TyX (K : PySem.W.Frag) (H : Hp) : V → Value → Prop where
  | of {x : V} {t : Value} (h : TyOf K H x t) : TyX K H x t
  | exc {a : Addr} {c : Value} (h : H a = some (excO a c)) (k : ExcCls K c) : TyX K H (.ref a) c
def clsV : V → Option Value
  | .ty n => some (.type n)
  | .ref c => some (.ref c)
  | _ => none
def rIsi (K : PySem.W.Frag) : List V → Hp → VK → Prop := fun xs H Q => ∃ x c t cv b, xs = [x, c] ∧ clsV c = some cv ∧ TyX K H x t ∧ PySem.W.kitOne K t cv = some b ∧ Q (.bl b) H
def tRaise (C : Value) (E : XK) : TS := fun _ _ H => E C none H
def tCallS (sp : Sp) (dvs : List V) (E : St → XK) (t : TA) : TE := fun σ H Q => t σ H fun vs H1 => sp (vs ++ dvs) H1 Q (E σ)
def tTry (K : PySem.W.Frag) (tb : (St → XK) → TS) (D : Value) (i : Nat) (th : TS) : TS := fun d σ H =>
  tb (fun σ' c _ H' => ExcCls K c ∧ PySem.W.subIn K c D = some true ∧ ∀ a, H' a = none → th { d with nx := fun σ2 H2 => d.nx (σ2.set i none) H2, bk := fun σ2 H2 => d.bk (σ2.set i none) H2, ct := fun σ2 H2 => d.ct (σ2.set i none) H2 } (σ'.set i (some (.ref a))) (upd H' a (excO a c))) d σ H
theorem isi_int_int {K : PySem.W.Frag} {H : Hp} {Q : VK} {i : Int} (q : Q (.bl true) H) : rIsi K [.int i, .ty "int"] H Q := ⟨_, _, _, _, true, rfl, rfl, .of (.int i), rfl, q⟩
theorem isi_int_bool {K : PySem.W.Frag} {H : Hp} {Q : VK} {i : Int} (q : Q (.bl false) H) : rIsi K [.int i, .ty "bool"] H Q := ⟨_, _, _, _, false, rfl, rfl, .of (.int i), kit_int_bool K, q⟩
theorem isi_exc {K : PySem.W.Frag} {H : Hp} {Q : VK} {r : Addr} {d : V} {cv dv : Value} {b : Bool} (hc : clsV d = some dv) (h : H r = some (excO r cv)) (k : ExcCls K cv) (e : PySem.W.kitOne K cv dv = some b) (q : Q (.bl b) H) : rIsi K [.ref r, d] H Q := ⟨_, _, _, _, b, rfl, hc, .exc h k, e, q⟩
theorem clsV_rel {c : V} {u cv : Value} (r : RelV c u) (h : clsV c = some cv) : u = cv := by
  cases c with
  | ty n => cases r; exact Option.some.inj h
  | ref a => cases r; exact Option.some.inj h
  | _ => cases h
theorem call_isinst : CallR X (.builtin "isinstance") (rIsi X.K) := by
  intro pins s σ H xs us Q I r h
  obtain ⟨x, c, t, cv, b, rfl, hc, ty, e, q⟩ := h
  obtain ⟨u, w', rfl, rx, rw'⟩ := vals2 r
  obtain rfl := clsV_rel rw' hc
  cases ty with
  | of ty => exact isinst_ok I rx ty e fun tk => ⟨.bl b, H, I.tok tk, rfl, q⟩
  | @exc a c h k =>
    cases (show u = Value.ref a from rx)
    obtain ⟨p, _, _⟩ := (show ObjOk X.prog X.w H s.heap a (excO a t) from I.hok a _ h)
    exact PySem.W.kia_one (k.kit a) I.kIn p e (fun z => nomatch z) fun tk => ⟨.bl b, H, I.tok tk, rfl, q⟩
def rEqT (K : PySem.W.Frag) : R2 := fun x y H Q => ∃ (a b : Addr) (ns ms : List Int), x = .ref a ∧ y = .ref b ∧ SqT K H a (ns.map V.int) ∧ SqT K H b (ms.map V.int) ∧ Q (.bl (decide (ns = ms))) H
def rNeT (K : PySem.W.Frag) : R2 := fun x y H Q => ∃ (a b : Addr) (ns ms : List Int), x = .ref a ∧ y = .ref b ∧ SqT K H a (ns.map V.int) ∧ SqT K H b (ms.map V.int) ∧ Q (.bl (!decide (ns = ms))) H
theorem getD_at {l : List Int} {j : Nat} (h : j < l.length) : l.getD j 0 = l[j] := by
  rw [List.getD_eq_getElem?_getD, List.getElem?_eq_getElem h]
  rfl
def rCount (K : PySem.W.Frag) : V → List V → Hp → VK → Prop := fun x vs H Q => ∃ l xs y, x = .ref l ∧ vs = [y] ∧ SqL K H l xs ∧ flatV y = true ∧ xs.all flatV = true ∧ Q (.int ((xs.countP fun z => eqV z y : Nat) : Int)) H
def rIndex (K : PySem.W.Frag) : V → List V → Hp → VK → Prop := fun x vs H Q => ∃ l xs y j, x = .ref l ∧ vs = [y] ∧ SqL K H l xs ∧ flatV y = true ∧ xs.all flatV = true ∧ xs.findIdx? (fun z => eqV z y) = some j ∧ j < 1000000 ∧ Q (.int (j : Nat)) H
def tTru (K : PySem.W.Frag) (ta : TE) : TT := fun σ H Q => ta σ H fun x H' => ∃ k, TruV K x H' k ∧ Q k H'
def tCut (t : TS) : TS := fun D σ H => ∃ R : St → Hp → Prop, t { D with nx := R } σ H ∧ ∀ σ' H', R σ' H' → D.nx σ' H'
theorem ps_cut {st : Stmt} {t : TS} (h : PS X st t) : PS X st (tCut t) := by
  intro pins s σ H D I hw
  obtain ⟨R, hw, hR⟩ := hw
  refine thn (h pins s σ H _ I hw) fun f s' q => ?_
  cases f with
  | next => obtain ⟨σ', H', I', q⟩ := q; exact ⟨σ', H', I', hR _ _ q⟩
  | brk => exact q
  | cont => exact q
  | ret u => exact q
end
theorem same_new {H : Hp} {p : Addr} (h : H p = none) (o : HO) : Same H (upd H p o) := fun b u q => by rw [upd_ne (ne_of_none q h)]; exact q
theorem Same.add {H0 H : Hp} {p : Addr} {o : HO} (s : Same H0 H) (h : H p = none) : Same H0 (upd H p o) := s.trans (same_new h o)
theorem Same.put {H0 H : Hp} {p : Addr} {o : HO} (s : Same H0 H) (h : H0 p = none) : Same H0 (upd H p o) := fun b u q => by rw [upd_ne (ne_of_none q h)]; exact s _ _ q
theorem truV_int {K : PySem.W.Frag} {i : Int} {H : Hp} {k : Bool} : TruV K (.int i) H k = (k = (i != 0)) := rfl
theorem truV_bl {K : PySem.W.Frag} {i : Bool} {H : Hp} {k : Bool} : TruV K (.bl i) H k = (k = i) := rfl
theorem scal_int (a b : Int) : scal (.int a) (.int b) = true := rfl
theorem scal_bl (a b : Bool) : scal (.bl a) (.bl b) = true := rfl
theorem Same.tup {K : PySem.W.Frag} {H H' : Hp} {a : Addr} {xs : List V} (e : Same H H') (h : SqT K H a xs) : SqT K H' a xs := by
  rcases h with (h | ⟨o, h⟩) | h
  · exact .inl (.inl (e _ _ h))
  · exact .inl (.inr ⟨o, e _ _ h⟩)
  · exact .inr h
theorem at_int {ns : List Int} {k : Int} (h0 : 0 ≤ k) (h : k < (ns.length : Int)) : ∃ v : Int, atI (ns.map V.int) k = some (.int v) ∧ ns[k.toNat]? = some v := by
  have hk : k.toNat < ns.length := by (first|lia|omega)
  have ek : k = ((k.toNat : Nat) : Int) := by (first|lia|omega)
  have q : atI (ns.map V.int) ((k.toNat : Nat) : Int) = some (.int ns[k.toNat]) := atI_nat (by rw [List.getElem?_map, List.getElem?_eq_getElem hk] <;> rfl)
  rw [← ek] at q
  exact ⟨ns[k.toNat], q, List.getElem?_eq_getElem hk⟩
def ForIt (J : It) (g : TG) (tb : TS) : TS := fun D σ H => ∃ W : Nat → Nat → St → Hp → Prop, (∃ m, W 0 m σ H) ∧ ∀ i m σ H, W i m σ H →
  (J.stop i H ∧ D.nx σ H) ∨ (J.go i H ∧ ∃ N : St → Hp → Prop, (∀ σ' H', N σ' H' → ∃ m', m' < m ∧ W (i + 1) m' σ' H') ∧ ∀ x H', J.yld i H x H' → g x σ H' fun σ2 H2 => tb { D with nx := N, ct := N, bk := D.nx } σ2 H2)
theorem tFor_eq {wi : TI} {g : TG} {tb : TS} {D : Ends} {σ : St} {H : Hp} : tFor wi g tb D σ H = wi σ H fun J H1 => ForIt J g tb D σ H1 := rfl
theorem for_rangeF {lo : Int} {n : Nat} {g : TG} {tb : TS} {D : Ends} {σ : St} {H : Hp} (Pv : Nat → St → Hp → Prop) (h0 : Pv 0 σ H)
    (hs : ∀ i σ H, i < n → Pv i σ H → g (.int (lo + i)) σ H fun σ2 H2 => tb { D with nx := Pv (i + 1), ct := Pv (i + 1), bk := D.nx } σ2 H2) (hd : ∀ σ H, Pv n σ H → D.nx σ H) : ForIt (Itr lo n) g tb D σ H := for_range Pv h0 hs hd
theorem for_listF {K : PySem.W.Frag} {a : Addr} {xs : List V} {g : TG} {tb : TS} {D : Ends} {σ : St} {H : Hp} (Pv : Nat → St → Hp → Prop) (h0 : Pv 0 σ H) (hl : ∀ i σ H, i ≤ xs.length → Pv i σ H → SqL K H a xs)
    (hs : ∀ i x σ H, xs[i]? = some x → Pv i σ H → g x σ H fun σ2 H2 => tb { D with nx := Pv (i + 1), ct := Pv (i + 1), bk := D.nx } σ2 H2) (hd : ∀ σ H, Pv xs.length σ H → D.nx σ H) : ForIt (Itl K a) g tb D σ H := for_list Pv h0 hl hs hd
end L2
namespace L2
open PySem PySem.Spec PyProof.Rows
section
variable {P : Program} {w : World}
theorem ObjOk.there {H : Hp} {h : Heap} {a : Addr} {o : HO} (x : ObjOk P w H h a o) : ∃ ob, h.get? a = some ob := by
  cases o with
  | lst xs => obtain ⟨_, _, _, _, e⟩ := x; exact ⟨_, e⟩
  | tup xs => obtain ⟨_, _, _, ob, e, _⟩ := x; exact ⟨ob, e⟩
  | dK kvs => obtain ⟨_, _, _, _, ob, _, _, e, _⟩ := x; exact ⟨ob, e⟩
  | dT kvs => obtain ⟨_, _, _, _, ob, _, _, e, _⟩ := x; exact ⟨ob, e⟩
  | set S n => obtain ⟨ob, _, _, _, e, _⟩ := x; exact ⟨ob, e⟩
  | ins C dx fs => obtain ⟨_, _, _, e, _⟩ := x; exact ⟨_, e⟩
  | own y => exact x
  | xd fs => obtain ⟨_, ⟨ob, _, _, e, _⟩, _⟩ := x; exact ⟨ob, e⟩
  | rng lo hi => obtain ⟨_, _, _, e⟩ := x; exact ⟨_, e⟩
  | frz ob u => obtain ⟨e, _⟩ := x; exact ⟨ob, e⟩
  | tbl ps => exact ⟨_, (show h.get? a = some _ from x)⟩
  | met f y => exact ⟨_, (show h.get? a = some _ from x)⟩
  | ext φ => obtain ⟨_, ⟨ob, e⟩, _⟩ := x; exact ⟨ob, e⟩
structure ExcAt (P : Program) (w : World) (outer : List Env) (H : Hp) (s : Shared) (E : XK) (ea : Addr) (s' : Shared) (B : Heap) (cls a0 : Value) (H' : Hp) : Prop where
  os : s'.os = s.os
  bare : AllBare s'.gens
  un : Un (frs outer) [] H H' s.heap s'.heap
  hokB : HOk P w H' B
  fly : Heap.FlyingW B outer ea cls a0 s'.heap
  cov : ∀ b o, s.heap.get? b = some o → H b = none → b ∉ frs outer → B.get? b = some o
  covT : ∀ b o, s.heap.get? b = some o → b ∉ frs outer → ∃ o', B.get? b = some o'
  new : s.heap.get? ea = none
  free : H' ea = none
  want : E cls none H'
def CXE (P : Program) (w : World) : CXT := fun outer H s E e s' => ∃ (ea : Addr) (B : Heap) (cls a0 : Value) (H' : Hp), e = .ref ea ∧ ExcAt P w outer H s E ea s' B cls a0 H'
theorem ExcAt.later {outer : List Env} {H H' : Hp} {s s' : Shared} {E : XK} {ea : Addr} {B h : Heap} {cls a0 : Value} (x : ExcAt P w outer H s E ea s' B cls a0 H') (st : B.StaysIn h) (sm : s'.heap.UpToSlots h)
    (ff : s'.heap.FunFrames B outer) : Un (frs outer) [] H H' s.heap h ∧ HOk P w H' h := by
  have slot : ∀ b o, s'.heap.get? b = some o → b ∈ frs outer → ∃ sl, h.get? b = some { o with slots := sl } := fun b o e hb => by
    obtain ⟨_, o', e', nf⟩ := ff.mem hb
    rw [e] at e'
    cases e'
    exact sm b o e nf
  refine ⟨⟨fun b o e n hb _ => st b o (x.cov b o e n hb), fun b o e n hb hx => ?_, x.un.free, fun b o e hx => ?_, x.un.tups, x.un.frzs, x.un.tbls⟩, x.hokB.kept st⟩
  · obtain ⟨sl, e1⟩ := x.un.slot b o e n hb hx
    obtain ⟨sl', e2⟩ := slot b _ e1 hb
    exact ⟨sl', e2⟩
  · by_cases hb : b ∈ frs outer
    · obtain ⟨o1, e1⟩ := x.un.there b o e hx
      obtain ⟨sl, e2⟩ := slot b o1 e1 hb
      exact ⟨_, e2⟩
    · obtain ⟨o', e'⟩ := x.covT b o e hb
      exact ⟨o', st b o' e'⟩
end
section
variable {P : Program} {w : World} {K : PySem.W.Frag} {mg : Str → Option Value} {base : Heap} {N : List Str} {qual : Str} {scope : Scope} {f : Addr} {cd : Value} {A : Around} {outer : List Env} {s₀ : Shared} {H₀ : Hp} {E : XK}
end
def Throws (X : Cx) (C : Addr) (E : XK) : Prop := ∀ (pins : List (Addr × Obj)) (σ : St) (H : Hp) (s : Shared) (ea : Addr) (h' : Heap) (args : List Value), Inv X pins σ H s → Heap.MadeExcOf s.heap h' ea (.ref C) args → E (.ref C) none H → X.xe (.ref ea) { s with heap := h' }
section
variable {P : Program} {w : World} {K : PySem.W.Frag} {mg : Str → Option Value} {base : Heap} {N : List Str} {qual : Str} {scope : Scope} {f : Addr} {cd : Value} {A : Around} {outer : List Env} {s₀ : Shared} {H₀ : Hp} {E : XK}
theorem throwsX {C : Addr} : Throws (cxOf (CXE P w) P w K mg base N qual scope f cd A outer s₀ H₀ E) C E := by
  intro pins σ H s ea h' args I hx q
  have hfr := I.ok.frames
  have hst : s.heap.FunFrames base (envOfC qual scope s₀.heap.objs.size f cd :: outer) := I.stack
  have fresh : ∀ b ∈ frs (envOfC qual scope s₀.heap.objs.size f cd :: outer), H b = none := I.stkFree
  have inB : ∀ b o, s.heap.get? b = some o → b ∉ frs (envOfC qual scope s₀.heap.objs.size f cd :: outer) → (PySem.W.hideAll s.heap (frs (envOfC qual scope s₀.heap.objs.size f cd :: outer))).get? b = some o := fun b o e n => PySem.W.hideAll_get _ e n
  have st0 : (PySem.W.hideAll s.heap (frs (envOfC qual scope s₀.heap.objs.size f cd :: outer))).StaysIn s.heap := fun b o q => PySem.W.of_hideAll _ q
  have hl : s.heap.FunFrames (PySem.W.hideAll s.heap (frs (envOfC qual scope s₀.heap.objs.size f cd :: outer))) (envOfC qual scope s₀.heap.objs.size f cd :: outer) :=
    PySem.W.funFrames_hide hst fun env he a ha => List.mem_filterMap.mpr ⟨env, he, ha⟩
  generalize PySem.W.hideAll s.heap (frs (envOfC qual scope s₀.heap.objs.size f cd :: outer)) = B at inB st0 hl
  refine wpAny_leaves_madeW (base := B) (h := s.heap) (L := s₀.heap.objs.size) hfr rfl st0 hl hx fun h2 t x1 x2 x3 x4 => ?_
  have neL : ∀ b o, s₀.heap.get? b = some o → b ≠ s₀.heap.objs.size := fun b o e => Nat.ne_of_lt (Heap.lt_size e)
  have notin : ∀ b o, s₀.heap.get? b = some o → b ∉ frs outer → b ∉ frs (envOfC qual scope s₀.heap.objs.size f cd :: outer) := fun b o e hb z => by
    rcases List.mem_cons.mp (I.stkSub b z) with q | q
    · exact neL b o e q
    · exact hb q
  have slot : ∀ b o, s.heap.get? b = some o → b ∈ frs outer → ∃ sl, h2.get? b = some { o with slots := sl } := fun b o e hb => by
    obtain ⟨_, o', e', nf⟩ := hl.2.2.mem hb
    rw [e] at e'
    cases e'
    exact x4 b o (hx.keeps b o e) nf
  have hokB : HOk P w H B := fun b u e => (I.hok b u e).stay (fun c v hc q => inB c v q fun z => by
    rcases hc with r | r
    · rw [r] at z
      rw [fresh b z] at e
      cases e
    · rw [fresh c z] at r
      cases r) (fun _ q => q) fun _ _ q => q
  have un : Un (frs outer) [] H₀ H s₀.heap h2 := by
    refine ⟨fun b o e n hb hx => ?_, fun b o e n hb hx => ?_, I.base.free, fun b o e hx => ?_, I.base.tups, I.base.frzs, I.base.tbls⟩
    · exact x1.1 b o (inB b o (I.base.keep b o e n hb hx) (notin b o e hb))
    · obtain ⟨sl, e1⟩ := I.base.slot b o e n hb hx
      obtain ⟨sl', e2⟩ := slot b _ e1 hb
      exact ⟨sl', e2⟩
    · obtain ⟨o', e1⟩ := I.base.there b o e hx
      by_cases hb : b ∈ frs outer
      · obtain ⟨sl, e2⟩ := slot b o' e1 hb
        exact ⟨_, e2⟩
      · exact ⟨o', x1.1 b o' (inB b o' e1 (notin b o e hb))⟩
  refine ⟨ea, B, .ref C, .ref t, H, rfl, I.os, I.bare, un, hokB, x1, fun b o e n hb => ?_, fun b o e hb => ?_, ?_, ?_, q⟩
  · exact inB b o (I.base.keep b o e n hb (by intro z; cases z)) (notin b o e hb)
  · obtain ⟨o', e1⟩ := I.base.there b o e (by intro z; cases z)
    exact ⟨o', inB b o' e1 (notin b o e hb)⟩
  · cases q : s₀.heap.get? ea with
    | none => rfl
    | some o =>
      obtain ⟨o', e1⟩ := I.base.there ea o q (by intro z; cases z)
      rw [hx.new] at e1
      cases e1
  · cases q : H ea with
    | none => rfl
    | some u =>
      obtain ⟨o', e1⟩ := (I.hok ea u q).there
      rw [hx.new] at e1
      cases e1
end
abbrev veMro : List Value := [.type "ValueError", .type "Exception", .type "BaseException", .type "object"]
def OwnExc (h : Heap) (C : Addr) : Prop := ∃ bm N nm q bs hdct sn sub ab col dd k0 k1 k2 k3 k5 mN, h.get? C = some (excClassObj nm q C N bs bm hdct sn sub ab col dd k0 k1 k2 k3 k5 "ValueError.__new__") ∧ h.Ns N mN ∧ mN "__init__" = none ∧ OwnTail h veMro bm
theorem ownExc_of {K : PySem.W.Frag} {h : Heap} {C : Addr} (X : K.In h) (q : PySem.W.excIn K C veMro "ValueError.__new__" = true) : OwnExc h C := by
  unfold PySem.W.excIn at q
  split at q
  · rename_i dd cd sl ho
    split at q
    · rename_i C2 bm k0 k1 k2 k3 n k5 hm hs
      simp only [Bool.and_eq_true,beq_iff_eq,Bool.not_eq_true'] at q
      obtain ⟨⟨⟨⟨⟨r1, r2⟩, r3⟩, r4⟩, r5⟩, r6⟩ := q
      subst r1 r2
      obtain ⟨a1, a2, a3, a4, a5, a6, a7, a8, a9, a10, a11⟩ := cd
      dsimp only at hm r3 r5 r6
      subst hm r3
      have z : sl = #[k0, k1, k2, k3, some (.builtin "ValueError.__new__"), k5] := by
        obtain ⟨l⟩ := sl
        exact congrArg Array.mk hs
      subst z
      exact ⟨bm, _, _, _, _, _, _, _, _, _, _, k0, k1, k2, k3, k5, _, X _ _ ho, .of_isNs (PySem.W.isNs_of_in X r5), PySem.W.nsMap_none_of_in X r5 r6, PySem.W.tail_of_in X r4⟩
    · cases q
  · cases q
theorem ps_raise {X : Cx} {x : Str} {C : Addr} {E : XK} {z : Str} {j : Nat} {np cpos pos pz : Pos} (hm : X.mg x = some (.ref C)) (hq : PySem.W.excIn X.K C veMro "ValueError.__new__" = true) (hg : Gl X x) (hc : X.calm = true) (hT : Throws X C E)
    (hd : (x == ("__debug__" : Str)) = false := by decide) : PS X (.Raise (some (.Call (.Name x np) [.Constant (.str z) j pz] [] cpos)) none pos) (tRaise (.ref C) E) := by
  intro pins s σ H D I h
  have hw : E (.ref C) none H := h
  have O := ownExc_of I.ok.mod.kin hq
  obtain ⟨b1, b2, b3, b4, b5, b6, b7, b8, b9, b10, b11, b12, b13, b14, b15, b16, b17, hC, hN, hni, T⟩ := O
  refine wpAny_Raise_call_subT (C := C) (nm := b3) (q := b4) (N := b2) (bs := b5) (bm := b1) (hdct := b6) (sn := b7) (sub := b8) (ab := b9) (col := b10) (dd := b11) (k0 := b12) (k1 := b13) (k2 := b14) (k3 := b15) (k5 := b16) (mN := b17)
    PySem.F.excBase_ValueError (T.hasType PySem.F.excBase_ValueError.hasBase) (I.ok.hd hc) rfl hni (ld_glob I hg hm ⟨rfl, ?_⟩ hd)
  refine Calls.evalArgs_plain ?_
  refine thn ((pa_cons (X := X) (pe_str (x := z) (j := j) (pos := pz)) pa_nil (by rfl)) cpos pins s σ H (fun vs H1 => vs = [.str z] ∧ H1 = H) I ⟨rfl, rfl⟩) fun us s2 ⟨vs, H1, I1, r, e1, e2⟩ => ?_
  subst e1 e2
  have hl := r.length
  refine ⟨rfl, by rw [← hl]; exact Nat.le_of_lt (small1000 (by show 1 ≤ 1000; decide)), I1.bk _ _ hC, hN.keeps I1.bk, T.keeps I1.bk, fun h' e hmade => ?_⟩
  exact hT pins σ _ s2 e h' us I1 hmade hw
theorem Fun.okX {P : Program} {w : World} {K : PySem.W.Frag} {mg : Str → Option Value} {base : Heap} {x qual : Str} {st : Stmt} {f : Addr} {fd : FuncData} {N ps : List Str} {k : Nat} {sp : Sp} (F : Fun K x qual st f fd) (S : FnScope N ps (defScope st)) (len : ∀ vs H Q E, sp vs H Q E → vs.length = ps.length)
    (hbody : ∀ (cdv : Value) (A : Around) (outer : List Env) (s : Shared) (H : Hp) (vs : List V) (Q : VK) (E : XK), Room k (A.deeper (envOfC qual (defScope st) s.heap.objs.size f cdv)) → sp vs H Q E →
      ∃ t, PSs (cxOf (CXE P w) P w K mg base N qual (defScope st) f cdv A outer s H E) (defBody st) t ∧ t { nx := fun _ H' => Q .non H', rt := Q } (L2.start N vs) H) : FnOk P w K mg base (CXE P w) (k + 1) f fd ps sp := by
  obtain ⟨oc, od, kV, doc, pm, an, cdv, ct, osl, rfl, lk, hcd⟩ := F.ex
  exact fn_of lk hcd S len fun A outer s H vs Q E hr hsp => hbody cdv A outer s H vs Q E hr hsp
section
variable {X : Cx} {CX : CXT} {k : Nat} {f : Addr} {fd : FuncData} {ps : List Str} {sp : Sp} {dvs : List V} {ds : List Value} {E : St → XK} {x : Str} {p pos : Pos} {e : Expr} {es : List Expr} {t : TA}
def PassesS (CX : CXT) (X : Cx) (E : St → XK) : Prop := ∀ (pins : List (Addr × Obj)) (σ : St) (H : Hp) (s : Shared) (e : Value) (s' : Shared), Inv X pins σ H s → CX X.stack H s (E σ) e s' → X.xe e s'
theorem pe_callS (F : FnOk X.prog X.w X.K X.mg X.base CX k f fd ps sp) (hr : Room k X.A) (hg : Gl X x) (hm : X.mg x = some (.ref f)) (hk : PySem.W.keepIn X.K (.ref f) = true) (hb : Binds X.K fd ps ds) (hd : Vals dvs ds) (hx : PassesS CX X E)
    (ha : PA X (e :: es) t) (hdb : (x == ("__debug__" : Str)) = false := by decide) (he : starEach (e :: es) X.env = (false, eval e X.env) :: starEach es X.env := by rfl) (hpl : (backTo pos (starEach es X.env)).any (·.1) = false := by rfl) :
    PE X (.Call (.Name x p) (e :: es) [] pos) (tCallS sp dvs E t) := by
  intro pins s σ H Q I h
  refine wpAny_Call_Name_kw (ld_glob I hg hm ?_ hdb)
  refine PySem.W.callWith_K (h₀ := X.base) I.ok.mod.kin hk (thn (ha pos pins s σ H _ I h) fun us s1 ⟨vs, H1, I1, r, q⟩ => ⟨I1.kIn, ?_⟩) he hpl
  have r2 : Vals (vs ++ dvs) (us ++ ds) := r.append hd
  have hl : (us ++ ds).length = ps.length := by rw [← r2.length]; exact F.len _ _ _ _ q
  refine wpAny_call (codeAny_mono (F.run X.A X.stack s1 H1 ⟨us, []⟩ (us ++ ds) (vs ++ dvs) Q (E σ) hr I1.env0 (hb s1 us I1.kIn hl) r2 q) fun res s' hq => ?_)
  cases res with
  | error e => exact hx pins σ H1 s1 e s' I1 hq
  | ok fl =>
    cases fl with
    | ret u => exact I1.after hq
    | next => exact False.elim hq
    | brk => exact False.elim hq
    | cont => exact False.elim hq
end
def Cx.inTry (X : Cx) (pins : List (Addr × Obj)) (E : St → XK) : Cx := { X with
  pn := X.pn ++ pins
  xe := fun e s' => ∃ pins' σ H s, Inv { X with pn := X.pn ++ pins } pins' σ H s ∧ CXE X.prog X.w X.stack H s (E σ) e s' }
theorem Cx.Ok.pinned {X : Cx} (ok : X.Ok) (pn : List (Addr × Obj)) (xe : Value → Shared → Prop) : Cx.Ok { X with pn := pn, xe := xe } :=
  ⟨ok.mod, ok.kind, ok.glob, ok.blt, ok.above, ok.inj, ok.has, ok.cab, ok.hd, ok.frames, ok.stk, ok.exf, ok.bs, ok.bsz, ok.noex, ok.exfs, ok.funs, ok.frf⟩
theorem Inv.toTry {X : Cx} {pins : List (Addr × Obj)} {σ : St} {H : Hp} {s : Shared} (I : Inv X pins σ H s) (E : St → XK) : Inv (X.inTry pins E) [] σ H s :=
  ⟨I.ok.pinned _ _, I.os, I.bare, I.base, I.loc, I.cell, I.free, I.freeC, fun p hp => I.pin p (by rw [List.append_nil] at hp; exact hp), I.hok, I.len⟩
theorem passS {X : Cx} {pins : List (Addr × Obj)} {E : St → XK} : PassesS (CXE X.prog X.w) (X.inTry pins E) E := fun pins' σ H s e s' I h =>
  ⟨pins', σ, H, s, ⟨I.ok.pinned _ _, I.os, I.bare, I.base, I.loc, I.cell, I.free, I.freeC, I.pin, I.hok, I.len⟩, h⟩
theorem Inv.ofTry {X : Cx} {pins pins' : List (Addr × Obj)} {xe : Value → Shared → Prop} {σ : St} {H : Hp} {s : Shared} (I : Inv { X with pn := X.pn ++ pins, xe := xe } pins' σ H s) (ok : X.Ok) : Inv X pins σ H s :=
  ⟨ok, I.os, I.bare, I.base, I.loc, I.cell, I.free, I.freeC, fun p hp => I.pin p (List.mem_append_left _ hp), I.hok, I.len⟩
theorem SP.ofTry {X : Cx} {pins pins' : List (Addr × Obj)} {E : St → XK} {D : Ends} {f : Flow} {s' : Shared} (ok : X.Ok) (h : SP (X.inTry pins E) pins' D f s') : SP X pins D f s' := by
  cases f with
  | next => obtain ⟨σ', H', I, q⟩ := h; exact ⟨σ', H', I.ofTry ok, q⟩
  | brk => obtain ⟨σ', H', I, q⟩ := h; exact ⟨σ', H', I.ofTry ok, q⟩
  | cont => obtain ⟨σ', H', I, q⟩ := h; exact ⟨σ', H', I.ofTry ok, q⟩
  | ret u => obtain ⟨v, σ', H', I, r, q⟩ := h; exact ⟨v, σ', H', I.ofTry ok, r, q⟩
theorem Inv.track {X : Cx} {pins : List (Addr × Obj)} {σ : St} {H : Hp} {s : Shared} {a : Addr} {o : HO} (I : Inv X pins σ H s) (hn : H a = none) (h0 : X.s₀.heap.get? a = none) (hL : a ≠ X.env.locals) (hc : ∀ x c, X.env.cells.lookup x = some c → c ≠ a)
    (hp : ∀ p ∈ X.pn ++ pins, p.1 ≠ a) (new : ObjOk X.prog X.w (upd H a o) s.heap a o) : Inv X pins σ (upd H a o) s := by
  refine ⟨I.ok, I.os, I.bare, ⟨I.base.keep, I.base.slot, fun b u q n hx => ?_, I.base.there, fun b xs q => ?_, fun b u xs q => ?_, fun b ps q => ?_⟩, I.loc, I.cell, ?_, fun x c e => ?_, fun p q => ?_, fun b u e => ?_, I.len⟩
  · have nb : b ≠ a := fun z => by rw [z, h0] at q; cases q
    rw [upd_ne nb]
    exact I.base.free b u q n hx
  · have q2 := I.base.tups b xs q
    rw [upd_ne (ne_of_none q2 hn)]
    exact q2
  · have q2 := I.base.frzs b u xs q
    rw [upd_ne (ne_of_none q2 hn)]
    exact q2
  · obtain ⟨m, q2⟩ := I.base.tbls b ps q
    exact ⟨m, by rw [upd_ne (ne_of_none q2 hn)]; exact q2⟩
  · rw [upd_ne hL.symm]
    exact I.free
  · rw [upd_ne (hc x c e)]
    exact I.freeC x c e
  · obtain ⟨e, n, r⟩ := I.pin p q
    exact ⟨e, by rw [upd_ne (hp p q)]; exact n, r⟩
  · by_cases hb : b = a
    · subst hb
      rw [upd_same] at e
      cases e
      exact new
    · rw [upd_ne hb] at e
      exact (I.hok b u e).stay (fun c v _ q => q) (fun c q => by rw [upd_ne (ne_of_none q hn)]; exact q) fun c xs q => by rw [upd_ne (ne_of_none q hn)]; exact q
theorem gone_ok {X : Cx} {pins : List (Addr × Obj)} {σ : St} {H : Hp} {s : Shared} {M : Model} {A : Around} {E : Value → Shared → Prop} {i : Nat} {n : Str} {pos : Pos} {Q : Unit → Shared → Prop} (I : Inv X pins σ H s) (hN : X.N.Nodup) (hi : X.N[i]? = some n)
    (hk : X.env.scope.names.lookup n = some .local) (h : ∀ s', Inv X pins (σ.set i none) H s' → Q () s') : wpAny M A (do bindName X.env n .none; unbindBehindTheSuite X.env n pos) Q E s := by
  obtain ⟨m, hn, hl⟩ := id I.loc
  have hcls : (X.env.scope.kind == .class || (X.env.scope.kind == .module && X.env.locals != X.env.globals)) = false := by rw [I.ok.kind]; rfl
  have hiσ : i < σ.length := by rw [I.len]; exact (List.getElem?_eq_some_iff.mp hi).1
  obtain ⟨oL, _, _, hoL, _⟩ := id hn
  refine wpAny_nameGoes_keeps hk hn hcls fun h' v hn' hs => ?_
  have below : ∀ b o, X.s₀.heap.get? b = some o → b ≠ X.env.locals := fun b o e => Nat.ne_of_lt (Nat.lt_of_lt_of_le (Heap.lt_size e) I.ok.above)
  refine h _ ⟨I.ok, I.os, I.bare, ⟨fun b o e n hb hx => ?_, fun b o e n hb hx => ?_, I.base.free, fun b o e hx => ?_, I.base.tups, I.base.frzs, I.base.tbls⟩, ⟨_, hn', fun j y v' e1 e2 e3 => ?_⟩, fun y c e => ?_, I.free, I.freeC, fun p hp => ?_, fun b ob e => ?_, by simpa using I.len⟩
  · exact (hs.2 b (below b o e)).trans (I.base.keep b o e n hb hx)
  · obtain ⟨sl, e1⟩ := I.base.slot b o e n hb hx
    exact ⟨sl, (hs.2 b (below b o e)).trans e1⟩
  · obtain ⟨o', e1⟩ := I.base.there b o e hx
    exact ⟨o', (hs.2 b (below b o e)).trans e1⟩
  · have hj : j ≠ i := fun z => by
      rw [z, List.getElem?_set_self hiσ] at e2
      cases e2
    rw [List.getElem?_set_ne (Ne.symm hj)] at e2
    obtain ⟨u', r', q⟩ := hl j y v' e1 e2 e3
    refine ⟨u', r', ?_⟩
    rcases q with ⟨k, e⟩ | ⟨k, c, e, z⟩
    · refine .inl ⟨k, ?_⟩
      have : y ≠ n := fun e => hj (nodup_ix hN e1 (e ▸ hi))
      simp [this, e]
    · exact .inr ⟨k, c, e, z.sameBut hs (I.cne y c e)⟩
  · obtain ⟨w', z⟩ := I.cell y c e
    exact ⟨w', z.sameBut hs (I.cne y c e)⟩
  · obtain ⟨e, n, ne, nf, d⟩ := I.pin p hp
    exact ⟨(hs.2 p.1 ne).trans e, n, ne, nf, d⟩
  · refine (I.hok b ob e).stay (fun c w' hc q => (hs.2 c ?_).trans q) (fun _ q => q) fun _ _ q => q
    rintro rfl
    rcases hc with rfl | hc
    · rw [I.free] at e; cases e
    · rw [I.free] at hc; cases hc
theorem excMatches_own {M : Model} {A : Around} {E : Value → Shared → Prop} {h : Heap} {g : Array GenState} {d : Drawn} {t : Nat} {os : OsState} {e D : Addr} {oe : Obj} {cls : Value} {Q : Bool → Shared → Prop} (he : h.get? e = some oe) (hcls : oe.cls = cls)
    (O : OwnExc h D) (L : PySem.W.Looks M h (isSubtype cls (.ref D)) true) (hq : Q true ⟨h, g, d, t, os⟩) : wpAny M A (excMatches (.ref e) (.ref D)) Q E ⟨h, g, d, t, os⟩ := by
  obtain ⟨b1, b2, b3, b4, b5, b6, b7, b8, b9, b10, b11, b12, b13, b14, b15, b16, b17, hD, hN, hni, T⟩ := O
  have hcB : (Value.ref D :: b1).contains (.type "BaseException") = true := by rw [List.contains_cons, T.hasType PySem.F.excBase_ValueError.hasBase, Bool.or_true]
  have f := tc_notTuple
  unfold excMatches
  repeat (first | (with_reducible refine wpAny_loadPart_at he ?_; rw [hcls]) | with_reducible refine wpAny_loadPart_at hD ?_ | (with_reducible refine wpAny_isSubtype_exc hD ?_; rw [hcB]) | (with_reducible refine L.at ?_) | wp_step)
  exact hq
def Cx.inExc (X : Cx) (ea : Addr) : Cx := { X with A := X.A.mark (some (.ref ea)), calm := false }
theorem Inv.toExc {X : Cx} {pins : List (Addr × Obj)} {σ : St} {H : Hp} {s : Shared} {ea : Addr} (I : Inv X pins σ H s) (hf : (X.A.mark (some (.ref ea))).frames = some X.stack) : Inv (X.inExc ea) pins σ H s :=
  ⟨⟨I.ok.mod, I.ok.kind, I.ok.glob, I.ok.blt, I.ok.above, I.ok.inj, I.ok.has, I.ok.cab, (by intro z; cases z), hf, I.ok.stk, I.ok.exf, I.ok.bs, I.ok.bsz, I.ok.noex, I.ok.exfs, I.ok.funs, I.ok.frf⟩, I.os, I.bare, I.base, I.loc, I.cell, I.free, I.freeC, I.pin, I.hok, I.len⟩
theorem Inv.ofExc {X : Cx} {pins : List (Addr × Obj)} {σ : St} {H : Hp} {s : Shared} {ea : Addr} (I : Inv (X.inExc ea) pins σ H s) (ok : X.Ok) : Inv X pins σ H s :=
  ⟨ok, I.os, I.bare, I.base, I.loc, I.cell, I.free, I.freeC, I.pin, I.hok, I.len⟩
theorem ps_try {X : Cx} {i : Nat} {D : Addr} {x n : Str} {np pos hpos : Pos} {body : List Stmt} {b₀ : Stmt} {suite : List Stmt} {tb : (St → XK) → TS} {th : TS} (hm : X.mg x = some (.ref D)) (hq : PySem.W.excIn X.K D veMro "ValueError.__new__" = true)
    (hg : Gl X x) (hN : X.N.Nodup) (hi : X.N[i]? = some n) (hl : X.env.scope.names.lookup n = some .local) (hxe : X.xe = fun _ _ => False) (hst : X.stack = X.env :: X.outer) (hfr : X.env.frame = some X.env.locals) (hex : X.ex = [])
    (hb : ∀ pins E, PSs (X.inTry pins E) body (tb E)) (hh : ∀ ea, PSs (X.inExc ea) (b₀ :: suite) th) (hd : (x == ("__debug__" : Str)) = false := by decide) :
    PS X (.Try body [.ExceptHandler (some (.Name x np)) (some n) (b₀ :: suite) hpos] [] [] pos) (tTry X.K tb (.ref D) i th) := by
  intro pins s σ H d I h
  refine wpAny_Try_except (wpAny_mono (hb pins _ [] s σ H d (I.toTry _) h) (fun f s₁ q => ?_) fun e s₁ q => ?_)
  · have q' := SP.ofTry I.ok q
    cases f with
    | next => exact wpAny_execs_nil q'
    | brk => exact q'
    | cont => exact q'
    | ret u => exact q'
  obtain ⟨pins', σ', H1, s1, I1, ea, B, cls, a0, H', rfl, x⟩ := q
  replace I1 : Inv X pins σ' H1 s1 := Inv.ofTry (xe := X.xe) I1 I.ok
  obtain ⟨hec, hsub, hth⟩ := x.want
  have fly := x.fly
  rw [hst] at fly
  have ff := x.fly.2.2.1
  have hfrm : X.A.frames = some (X.env :: X.outer) := by rw [← hst]; exact I.ok.frames
  refine wpAny_looks_onW (base := B) (L := X.env.locals) hfrm hfr fly fun h4 hd4 sm4 => ?_
  refine wpAny_landsW hd4 fun h5 fl5 sm5 => ?_
  have invAt : ∀ {h : Heap} {tk : Nat}, B.StaysIn h → s₁.heap.UpToSlots h → Inv X pins σ' H' { s₁ with heap := h, toks := tk } := fun {h tk} st sm => by
    obtain ⟨un, hok⟩ := x.later st sm ff
    exact I1.call' (ch := []) x.os un hok x.bare fun b z => nomatch z
  have I5 : Inv X pins σ' H' { s₁ with heap := h5 } := invAt (tk := s₁.toks) fl5.1 (sm4.trans sm5)
  have fmark : (X.A.mark (some (.ref ea))).frames = some X.stack := I.ok.frames
  refine wpAny_handleBy_cons (codeAny_handlers_test ?_) (by intro q; cases q)
  refine ld_glob (X := X.inExc ea) (I5.toExc fmark) hg hm ?_ hd
  have kin5 := I5.kIn
  obtain ⟨oe, hoe, hcls⟩ := fl5.there
  refine excMatches_own (cls := cls) hoe hcls (ownExc_of kin5 hq) (PySem.W.looks_subIn kin5 hsub) ?_
  refine codeAny_handlers_suite_as ?_
  refine lands_againW fl5 fun h6 fl6 sm6 => ?_
  have I6 : Inv X pins σ' H' { s₁ with heap := h6 } := invAt (tk := s₁.toks) fl6.1 ((sm4.trans sm5).trans sm6)
  have noat : ∀ b o, s1.heap.get? b = some o → b ≠ ea := fun b o e z => by rw [z, x.new] at e; cases e
  have n0 : X.s₀.heap.get? ea = none := by
    cases q : X.s₀.heap.get? ea with
    | none => rfl
    | some o =>
      obtain ⟨o', e1⟩ := I1.base.there ea o q (by rw [hex]; intro z; cases z)
      exact absurd rfl (noat ea o' e1)
  have nL : ea ≠ X.env.locals := by
    obtain ⟨m, ⟨o, _, _, e, _⟩, _⟩ := I1.loc
    exact (noat _ o e).symm
  have nC : ∀ y c, X.env.cells.lookup y = some c → c ≠ ea := fun y c e => by
    obtain ⟨v, z⟩ := I1.cell y c e
    obtain ⟨o, e1, _⟩ := z
    exact noat c o e1
  have nP : ∀ p ∈ X.pn ++ pins, p.1 ≠ ea := fun p hp => noat _ _ (I1.pin p hp).1
  have isx : ExcIs ea cls h6 := by
    obtain ⟨_, _, _, oe, vs, _, _, _, he, hc, hd, _⟩ := fl6
    exact ⟨oe, vs, he, hc.1, hd⟩
  have I7 := I6.track (o := excO ea cls) x.free n0 nL nC nP ⟨isx, by obtain ⟨oe, _, he, _⟩ := isx; exact ⟨oe, he⟩, fun h1 h2 ⟨oe, vs, he, r⟩ k => ⟨oe, vs, k oe he, r⟩⟩
  refine store_ok (X := X.inExc ea) (v := .ref ea) (I7.toExc fmark) hN hi (.inl hl) rfl (fun s8 I8 => ?_) (.inr hl)
  refine wpAny_mono (hh ea pins s8 _ _ _ I8 (hth ea x.free)) (fun f s9 q => ?_) fun e s9 q => ?_
  · cases f with
    | next =>
      obtain ⟨σ9, H9, I9, r⟩ := q
      exact gone_ok (I9.ofExc I.ok) hN hi hl fun s10 I10 => ⟨_, _, I10, r⟩
    | brk =>
      obtain ⟨σ9, H9, I9, r⟩ := q
      exact gone_ok (I9.ofExc I.ok) hN hi hl fun s10 I10 => ⟨_, _, I10, r⟩
    | cont =>
      obtain ⟨σ9, H9, I9, r⟩ := q
      exact gone_ok (I9.ofExc I.ok) hN hi hl fun s10 I10 => ⟨_, _, I10, r⟩
    | ret u =>
      obtain ⟨v, σ9, H9, I9, rv, r⟩ := q
      exact gone_ok (I9.ofExc I.ok) hN hi hl fun s10 I10 => ⟨v, _, _, I10, rv, r⟩
  · rw [show (X.inExc ea).xe = X.xe from rfl, hxe] at q
    exact q.elim
structure ExcKit (K : PySem.W.Frag) (C : Addr) : Prop where
  ga : PySem.W.findIn K (.ref C) "__getattribute__" = some (some (.builtin "BaseException.__getattribute__"))
  gn : PySem.W.findIn K (.ref C) "__getattr__" = some none
  cl : PySem.W.findIn K (.ref C) "__class__" = some (some (.builtin "object.__class__"))
  mb : PySem.W.mroIn K C (.type "BaseException") = some true
  mo : PySem.W.mroIn K C (.type "object") = some true
  ok : PySem.W.excIn K C veMro "ValueError.__new__" = true
section
open Builtin Builtin.ObjectAttr Builtin.Getset_descriptor PySem.W
variable {K : PySem.W.Frag} {prog : Program} {w : World} {A : Around} {E : Value → Shared → Prop} {h : Heap} {g : Array GenState} {d : Drawn} {t : Nat} {os : OsState} {a C : Addr} {o : Obj}
theorem exc_slotIn : splitId "BaseException.__getattribute__" = some ("BaseException", "__getattribute__") := by decide +kernel
theorem exc_kindIn : builtinKind "BaseException.__getattribute__" = some .slot := by decide +kernel
theorem exc_clsGet {R : Result → Shared → Prop} (X : K.In h) (Z : ExcKit K C) (hx : h.get? a = some o) (hc : o.cls = .ref C) (hq : R (.ok (.ret (.ref C))) ⟨h, g, d, t, os⟩) :
    codeAny (model prog w) A (.call (.builtin "getset_descriptor.__get__") ⟨[.builtin "object.__class__", .ref a, .ref C], []⟩) R ⟨h, g, d, t, os⟩ := by
  have LT : PySem.W.Looks (model prog w) h (typeOf (.ref a)) (.ref C) := hc ▸ (PySem.W.Looks.ld hx).andThen .now
  have LM := PySem.W.looks_mroIn (M := model prog w) X Z.mo
  refine codeAny_call_builtin PySem.W.KF.slot_gs.plain PySem.W.KF.entry_gs (PySem.W.KF.slot_gs.check _ _ _ _ _ _ _ _ PySem.W.KF.type_class (PySem.W.KF.args_gs _ _ _) ?_)
  unfold Builtin.«getset_descriptor.__get__»
  unfold descrGet
  rw [PySem.W.dga_obj]
  refine wpAny_bind (wpAny_pure ?_)
  unfold descrGetter descrCheckInstance
  unfold descrNameAndClass isInstance
  simp only [PySem.W.KF.owner_class]
  repeat lk
  refine ⟨Code.quiet_builtin _ (by decide +kernel), codeAny_builtin PySem.W.KF.entry_class ?_⟩
  unfold Builtin.«object.__class__»
  unfold shownTypeOf
  repeat lk
  exact hq
theorem exc_clsEntry {tk : Tok} {Q : Fin → Shared → Prop} (X : K.In h) (Z : ExcKit K C) (hx : h.get? a = some o) (hc : o.cls = .ref C) (hq : Q (.done (.ret (.ref C))) ⟨h, g, d, t, os⟩) :
    wpAny (model prog w) A (Builtin.«object.__getattribute__» ⟨[.ref a, .str "__class__" tk], []⟩) Q E ⟨h, g, d, t, os⟩ := by
  have LC := PySem.W.looks_findIn (M := model prog w) X Z.cl
  have h5 : (⟨h, g, d, t, os⟩ : Shared).TypeIs (.builtin "object.__class__") "getset_descriptor" := F.typeOf_object_class
  have f5 := F.typeOf_object_class
  have f6 := F.slot_gs_get.lookup
  have f7 := F.slot_gs_set.lookup
  repeat (any_goals (first | assumption | (with_reducible refine wpAny_loadPart_at hx ?_; rw [hc]) | with_reducible refine LC.at ?_ | wp_step))
  refine exc_clsGet X Z hx hc ?_
  repeat (any_goals (first | assumption | wp_step))
theorem exc_clsCheck {M : Model} {v : Value} {Q : Unit → Shared → Prop} (X : K.In h) (Z : ExcKit K C) (hx : h.get? a = some o) (hc : o.cls = .ref C) (hq : Q () ⟨h, g, d, t, os⟩) :
    wpAny M A (checkBuiltinCall "BaseException.__getattribute__" ⟨[.ref a, v], []⟩) Q E ⟨h, g, d, t, os⟩ := by
  have LM := PySem.W.looks_mroIn (M := M) X Z.mb
  have LT : PySem.W.Looks M h (typeOf (.ref a)) (.ref C) := hc ▸ (PySem.W.Looks.ld hx).andThen .now
  have ao := F.args_bexc_ga (.ref a) v
  simp only [checkBuiltinCall,exc_kindIn,exc_slotIn]
  refine wpAny_bind ?_
  unfold isInstance
  refine wpAny_bind (LT.at (LM.at ?_))
  repeat (any_goals (first | assumption | wp_step))
theorem exc_clsBy {tk : Tok} {Q : Value → Shared → Prop} (X : K.In h) (Z : ExcKit K C) (FB : ExcAttrBase "ValueError" veMro) (hx : h.get? a = some o) (hc : o.cls = .ref C) (hq : Q (.ref C) ⟨h, g, d, t, os⟩) :
    wpAny (model prog w) A (getAttrBy (.ref a) (.str "__class__" tk) false) Q E ⟨h, g, d, t, os⟩ := by
  have LG := PySem.W.looks_findIn (M := model prog w) X Z.ga
  have LN := PySem.W.looks_findIn (M := model prog w) X Z.gn
  have f3 := FB.ga.bind (.ref a)
  have n2 : (Value.builtin "BaseException.__getattribute__" == Value.builtin "object.__getattribute__") = false := by decide +kernel
  have n1 : (onTheHeap (Value.ref C) && (Value.builtin "BaseException.__getattribute__" == Value.builtin "object.__getattribute__")) = false := by rw [n2]; rfl
  repeat (any_goals (first | assumption | (with_reducible refine wpAny_loadPart_at hx ?_; rw [hc]) | with_reducible refine LG.at ?_ | with_reducible refine LN.at ?_ | wp_step))
  refine codeAny_call_builtin FB.ga.plain F.entry_bexc_ga (exc_clsCheck X Z hx hc (exc_clsEntry X Z hx hc ?_))
  repeat (any_goals (first | assumption | wp_step))
theorem exc_clsAttr {Q : Option Value → Shared → Prop} (X : K.In h) (Z : ExcKit K C) (FB : ExcAttrBase "ValueError" veMro) (hx : h.get? a = some o) (hc : o.cls = .ref C) (hq : Q (some (.ref C)) ⟨h, g, d, t + 1, os⟩) :
    wpAny (model prog w) A (getAttr? (.ref a) "__class__") Q E ⟨h, g, d, t, os⟩ := by
  unfold getAttr? getAttrBy?
  repeat (any_goals (first | assumption | with_reducible apply exc_clsBy X Z FB hx hc | wp_step))
theorem excCls_of (Z : ExcKit K C) : ExcCls K (.ref C) := ⟨fun x => {
  ty := fun M h _ p => by
    obtain ⟨oe, vs, e, c, _⟩ := p
    exact c ▸ (PySem.W.Looks.ld e).andThen .now
  it := fun M h X _ => by
    obtain ⟨b1, b2, b3, b4, b5, b6, b7, b8, b9, b10, b11, b12, b13, b14, b15, b16, b17, hC, _⟩ := ownExc_of X Z.ok
    intro A' Q' E' s' k q
    unfold isType loadHead
    exact wpAny_bind (wpAny_loadPart (k _ _ hC) (wpAny_pure q))
  ne := fun h tp dd its n sl X htp => by
    obtain ⟨b1, b2, b3, b4, b5, b6, b7, b8, b9, b10, b11, b12, b13, b14, b15, b16, b17, hC, _⟩ := ownExc_of X Z.ok
    refine Bool.eq_false_iff.mpr fun q => ?_
    have e : C = tp := Value.ref.inj (beq_iff_eq.mp q)
    subst e
    rw [hC] at htp
    have z := congrArg Obj.data (Option.some.inj htp)
    exact nomatch z
  ca := fun {prog w A E Q s} X p q => by
    obtain ⟨h, g, d, t, os⟩ := s
    obtain ⟨oe, vs, e, c, _⟩ := p
    exact exc_clsAttr X Z PySem.F.attrBase_ValueError e c q }⟩
end
end L2
namespace L2
open PySem PySem.Spec PyProof.Rows
theorem cellOf_ok {env : Env} {x : Str} {c : Addr} (h : env.cells.lookup x = some c) : cellOf env x = pure c := by
  unfold cellOf
  rw [h]
theorem closure_go {env : Env} : ∀ (l : List (Str × NameKind)) (cs : List (Str × Addr)), (∀ y ∈ l, y.2 = .free → ∃ c, env.cells.lookup y.1 = some c) → (∀ x c, cs.lookup x = some c → env.cells.lookup x = some c) →
    ∃ cl, (forIn l cs fun (y : Str × NameKind) r => (if (y.2 == .free) = true then do let c ← cellOf env y.1; pure (ForInStep.yield ((y.1, c) :: r)) else pure (ForInStep.yield r) : Sem (ForInStep (List (Str × Addr))))) = pure cl ∧
      (∀ x c, cl.lookup x = some c → env.cells.lookup x = some c) ∧ (∀ y ∈ l, y.2 = .free → ∃ c, cl.lookup y.1 = some c) ∧ ∀ x, (∃ c, cs.lookup x = some c) → ∃ c, cl.lookup x = some c
  | [], cs, _, hc => ⟨cs, by simp, hc, by simp, fun _ h => h⟩
  | y :: l, cs, hf, hc => by
    have hf' : ∀ z ∈ l, z.2 = .free → ∃ c, env.cells.lookup z.1 = some c := fun z hz => hf z (List.mem_cons_of_mem _ hz)
    by_cases hy : y.2 = .free
    · obtain ⟨c, e⟩ := hf y List.mem_cons_self hy
      have hc' : ∀ x d, List.lookup x ((y.1, c) :: cs) = some d → env.cells.lookup x = some d := fun x d q => by
        rw [List.lookup_cons] at q
        split at q
        · rename_i b
          cases q
          rw [beq_iff_eq.mp b, e]
        · exact hc x d q
      obtain ⟨cl, e1, e2, e3, e4⟩ := closure_go l ((y.1, c) :: cs) hf' hc'
      refine ⟨cl, ?_, e2, fun z hz q => ?_, fun x ⟨d, q⟩ => e4 x ?_⟩
      · rw [List.forIn_cons, if_pos (by rw [hy]; rfl), cellOf_ok e]
        simpa using e1
      · rcases List.mem_cons.mp hz with r | r
        · exact e4 z.1 ⟨c, by rw [r, List.lookup_cons]; simp⟩
        · exact e3 z r q
      · rw [List.lookup_cons]
        split
        · exact ⟨_, rfl⟩
        · exact ⟨d, q⟩
    · obtain ⟨cl, e1, e2, e3, e4⟩ := closure_go l cs hf' hc
      refine ⟨cl, ?_, e2, fun z hz q => ?_, e4⟩
      · rw [List.forIn_cons, if_neg (by simpa using hy)]
        simpa using e1
      · rcases List.mem_cons.mp hz with r | r
        · rw [r] at q; exact absurd q hy
        · exact e3 z r q
theorem closure_ok {scope : Scope} {env : Env} (h : ∀ y ∈ scope.names, y.2 = .free → ∃ c, env.cells.lookup y.1 = some c) :
    ∃ cl, closureFor scope env = pure cl ∧ (∀ x c, cl.lookup x = some c → env.cells.lookup x = some c) ∧ ∀ y ∈ scope.names, y.2 = .free → ∃ c, cl.lookup y.1 = some c := by
  obtain ⟨cl, e1, e2, e3, _⟩ := closure_go scope.names [] h (by simp)
  refine ⟨cl, ?_, e2, e3⟩
  unfold closureFor
  simp only [bind_pure]
  exact e1
theorem compLoop_any {P : Program} {w : World} {A : Around} {R : Result → Shared → Prop} {s : Shared} {elt target iter : Expr} {ifs : List Expr} {scope : Scope} {pos : Pos} {it acc : Value} {env : Env} {Z : Value → Shared → Prop} (J : Nat → Shared → Prop)
    (hZ : Z = notedBy (model P w) A env fun e s' => R (.error e) s')
    (turn : ∀ n s, J n s → wpAny (model P w) A (pyNext it) (fun r s1 => match r with
      | none => R (.ok .next) s1
      | some v => wpAny (model P w) A (letOwnedTupleGo target it v) (fun _ s2 => wpAny (model P w) A (assign target env v) (fun _ s3 =>
          wpAny (model P w) A (forIn ifs true fun c r => if r = true then do let ok ← isTrue c env (eval c env); pure (ForInStep.yield ok) else pure (ForInStep.yield r)) (fun ok s4 =>
            if ok = true then wpAny (model P w) A (eval elt env) (fun x s5 => wpAny (model P w) A (call (.builtin "list.append") [acc, x]) (fun _ s6 => ∃ m, m < n ∧ J m s6) Z s5) Z s4
            else ∃ m, m < n ∧ J m s4) Z s3) Z s2) Z s1) Z s)
    (n : Nat) (h : J n s) : codeAny (model P w) A (.compLoop (.ListComp elt [⟨target, iter, ifs, 0⟩] scope pos) 0 it acc env) R s := by
  subst hZ
  refine codeAny_loop rfl J (fun n s hJ => ?_) n h
  show wpAny _ _ (Sem.onRaise (compTurn (.ListComp elt [⟨target, iter, ifs, 0⟩] scope pos) 0 it acc env) fun x => do noteFrame x env; theTreesLotGoes x) _ _ s
  refine wpAny_noted ?_
  rw [compTurn_list]
  refine wpAny_bind (wpAny_standAt (wpAny_bind (thn (turn n s hJ) fun r s1 h1 => ?_)))
  cases r with
  | none => exact wpAny_pure h1
  | some v =>
    refine wpAny_bind (thn h1 fun _ s2 h2 => wpAny_bind (thn h2 fun _ s3 h3 => wpAny_bind (thn h3 fun ok s4 h4 => ?_)))
    cases ok with
    | false => exact wpAny_pure ⟨rfl, h4⟩
    | true => exact wpAny_bind (wpAny_bind (thn h4 fun x s5 h5 => wpAny_bind (thn h5 fun _ s6 h6 => wpAny_pure (wpAny_pure ⟨rfl, h6⟩))))
def PTs (X : Cx) (ifs : List Expr) (t : TT) : Prop := ∀ (pins : List (Addr × Obj)) (s : Shared) (σ : St) (H : Hp) (Q : Bool → Hp → Prop), Inv X pins σ H s → t σ H Q →
  wpAny (model X.prog X.w) X.A (forIn ifs true fun c r => if r = true then do let ok ← isTrue c X.env (eval c X.env); pure (ForInStep.yield ok) else pure (ForInStep.yield r)) (TP X pins σ Q) X.xe s
def tNoTest : TT := fun _ H Q => Q true H
theorem pts_nil {X : Cx} : PTs X [] tNoTest := fun _ _ _ H _ I h => wpAny_tests_nil ⟨H, I, h⟩
theorem pts_one {X : Cx} {c : Expr} {t : TT} (h : PT X c t) : PTs X [c] t := fun pins s σ H Q I q => wpAny_tests_one (h pins s σ H Q I q)
def capS (cap : List (Option Nat)) (σ : St) : St := cap.map fun o => o.bind fun j => (σ[j]?).join
def tComp (wi : TI) (g : TG) (tt : TT) (te : TE) (cap : List (Option Nat)) : TE := fun σ H Q => wi σ H fun J H1 => ∀ D, H1 D = none → ∃ W : Nat → Nat → St → Hp → Prop, (∃ m, W 0 m (capS cap σ) (upd H1 D (.lst []))) ∧ ∀ i m σc Hc, W i m σc Hc →
  (J.stop i Hc ∧ Q (.ref D) Hc) ∨ (J.go i Hc ∧ ∃ N : St → Hp → Prop, (∀ σ' H', N σ' H' → ∃ m', m' < m ∧ W (i + 1) m' σ' H') ∧ ∀ x H', J.yld i Hc x H' → g x σc H' fun σ2 H2 => tt σ2 H2 fun b H3 => if b = true then te σ2 H3 fun y H4 => rAppend (.ref D) [y] H4 fun _ H5 => N σ2 H5 else N σ2 H3)
def Cx.blk (X : Cx) (Nc : List Str) (scope : Scope) (cl : List (Str × Addr)) (s : Shared) (H : Hp) (fp : List Addr) : Cx := { X with
  N := Nc, s₀ := s, H₀ := H, env := compEnvC scope cl s.heap.objs.size X.env, outer := X.stack, stack := X.stack, ex := fp, fn := fun _ => false, pn := [], xe := fun _ _ => False }
structure BlkOk (sc : Scope) (N Nc : List Str) (cap : List (Option Nat)) (scope : Scope) : Prop where
  kind : scope.kind = .function
  nocell : ∀ y ∈ scope.names, y.2 ≠ .cell
  free : ∀ y ∈ scope.names, y.2 = .free → sc.names.lookup y.1 = some .cell ∨ sc.names.lookup y.1 = some .free
  once : ∀ y ∈ scope.names, scope.names.lookup y.1 = some y.2
  nd : Nc.Nodup
  len : cap.length = Nc.length
  cap : ∀ (i : Nat) (y : Str) (j : Nat), Nc[i]? = some y → cap[i]? = some (some j) → N[j]? = some y ∧ scope.names.lookup y = some .free
def blkChk (sc : Scope) (N Nc : List Str) (cap : List (Option Nat)) (scope : Scope) : Bool :=
  scope.kind == .function && scope.names.all (fun y => y.2 != .cell && scope.names.lookup y.1 == some y.2 && (y.2 != .free || sc.names.lookup y.1 == some .cell || sc.names.lookup y.1 == some .free)) && decide Nc.Nodup && cap.length == Nc.length
    && (Nc.zip cap).all fun p => p.2.all fun j => N[j]? == some p.1 && scope.names.lookup p.1 == some .free
theorem BlkOk.of {sc : Scope} {N Nc : List Str} {cap : List (Option Nat)} {scope : Scope} (h : blkChk sc N Nc cap scope = true) : BlkOk sc N Nc cap scope := by
  unfold blkChk at h
  simp only [Bool.and_eq_true,beq_iff_eq,List.all_eq_true,bne_iff_ne,ne_eq,Bool.or_eq_true,decide_eq_true_eq] at h
  obtain ⟨⟨⟨⟨h1, h2⟩, h3⟩, h4⟩, h5⟩ := h
  refine ⟨h1, fun y hy => (h2 y hy).1.1, fun y hy hf => ?_, fun y hy => (h2 y hy).1.2, h3, h4, fun i y j e1 e2 => ?_⟩
  · rcases (h2 y hy).2 with (q | q) | q
    · exact absurd hf q
    · exact .inl q
    · exact .inr q
  · have m : (y, some j) ∈ Nc.zip cap := by
      refine List.mem_of_getElem? (i := i) ?_
      rw [List.getElem?_zip_eq_some]
      exact ⟨e1, e2⟩
    have z := h5 _ m
    simpa using z
theorem relabel_lookup {env : Env} {x : Str} : ∀ {names : List (Str × NameKind)} {k : NameKind}, ((names.map fun (n, k) => if (k == NameKind.free && env.scope.kind == .function && env.kindOf n == some .cell) then (n, NameKind.cell) else (n, k)).lookup x = some k) → k ≠ .cell ∧ names.lookup x = some k ∨ (k = .cell ∧ (names.lookup x = some .cell ∨ names.lookup x = some .free))
  | [], _, h => by simp at h
  | (n, q) :: r, k, h => by
    have ih := @relabel_lookup env x r k
    rw [List.map_cons] at h
    dsimp only at h
    by_cases hx : (x == n) = true
    · by_cases hc : (q == NameKind.free && env.scope.kind == .function && env.kindOf n == some .cell) = true
      · rw [if_pos hc, List.lookup_cons, hx] at h
        cases h
        rw [Bool.and_eq_true, Bool.and_eq_true] at hc
        refine .inr ⟨rfl, .inr ?_⟩
        rw [List.lookup_cons, hx]
        exact congrArg some (beq_iff_eq.mp hc.1.1)
      · rw [if_neg hc, List.lookup_cons, hx] at h
        cases h
        rw [List.lookup_cons, hx]
        by_cases z : q = .cell
        · exact .inr ⟨z, .inl (congrArg some z)⟩
        · exact .inl ⟨z, rfl⟩
    · have hx' : (x == n) = false := by simpa using hx
      rw [List.lookup_cons, hx']
      refine ih ?_
      by_cases hc : (q == NameKind.free && env.scope.kind == .function && env.kindOf n == some .cell) = true
      · rw [if_pos hc, List.lookup_cons, hx'] at h
        exact h
      · rw [if_neg hc, List.lookup_cons, hx'] at h
        exact h
section
variable {X : Cx} {pins : List (Addr × Obj)} {σ : St} {H : Hp} {s : Shared}
theorem blk_inv {Nc : List Str} {cap : List (Option Nat)} {scope : Scope} {cl : List (Str × Addr)} {fp : List Addr} {h1 : Heap} {tk : Nat} {m1 : Str → Option Value} (I : Inv X pins σ H s) (B : BlkOk X.env.scope X.N Nc cap scope)
    (hsub : ∀ x c, cl.lookup x = some c → X.env.cells.lookup x = some c) (hfr : ∀ y ∈ scope.names, y.2 = .free → ∃ c, cl.lookup y.1 = some c) (hf : ∀ b ∈ fp, FpOk X pins H b) (hin : ∀ b ∈ fp, b < s.heap.objs.size)
    (hk : ∀ b o, s.heap.get? b = some o → h1.get? b = some o) (hn : h1.Ns s.heap.objs.size m1) : Inv (X.blk Nc scope cl s H fp) [] (capS cap σ) H { s with heap := h1, toks := tk } := by
  have ok := I.ok
  have bsz : X.base.objs.size ≤ s.heap.objs.size := Nat.le_trans ok.bsz I.sz
  refine ⟨⟨ok.mod, B.kind, ok.glob, ok.blt, Nat.le_refl _, fun x y c h1 h2 => ok.inj x y c (hsub x c h1) (hsub y c h2), fun x hx => ?_, (by intro x c z; cases z), ok.hd, ok.frames, .inl rfl, fun b hb => ⟨Nat.ne_of_lt (hin b hb), fun x c e => (hf b hb).2.2.2.2.1 x c (hsub x c e)⟩,
    I.bs, bsz, fun b o e hb => ?_, fun b hb z => ?_, I.stack, I.stkFree⟩, rfl, I.bare, Un.kept hk, ⟨m1, hn, fun i y v e1 e2 e3 => ?_⟩, fun x c e => ?_, I.hok.fresh (Nat.le_refl _), fun x c e => I.freeC x c (hsub x c e), (by intro p hp; cases hp), I.hok.kept hk, ?_⟩
  · have look : ∀ k, (relabel scope X.env).names.lookup x = some k → k = .cell ∨ k = .free → ∃ c, cl.lookup x = some c := fun k q hk => by
      rcases relabel_lookup q with ⟨n1, n2⟩ | ⟨_, n2 | n2⟩
      · rcases hk with r | r
        · exact absurd r n1
        · exact hfr (x, k) (PySem.mem_of_lookup n2) r
      · exact absurd rfl (B.nocell _ (PySem.mem_of_lookup n2))
      · exact hfr (x, .free) (PySem.mem_of_lookup n2) rfl
    rcases hx with q | q
    · exact look _ q (.inl rfl)
    · exact look _ q (.inr rfl)
  · rcases (hf b hb).2.2.2.1 with q | q
    · exact ok.noex b o e q
    · exact absurd (Nat.lt_of_lt_of_le (Heap.lt_size e) (Nat.le_trans ok.bsz q)) (Nat.lt_irrefl _)
  · rcases List.mem_cons.mp (I.stkSub b z) with q | q
    · exact (hf b hb).2.1 q
    · exact (hf b hb).2.2.1 q
  · have e2' : (cap[i]?).map (fun o => o.bind fun j => (σ[j]?).join) = some (some v) := by rw [← List.getElem?_map]; exact e2
    obtain ⟨o, ho, eo⟩ := Option.map_eq_some_iff.mp e2'
    obtain ⟨j, rfl, ej⟩ := Option.bind_eq_some_iff.mp eo
    have ej' : σ[j]? = some (some v) := by
      cases q : σ[j]? with
      | none => rw [q] at ej; cases ej
      | some z => rw [q] at ej; cases ej; rfl
    obtain ⟨c1, c2⟩ := B.cap i y j e1 ho
    have vis := B.free (y, .free) (PySem.mem_of_lookup c2) rfl
    obtain ⟨m, _, hl⟩ := I.loc
    obtain ⟨u, r, lk⟩ := hl j y v c1 ej' (.inr vis)
    obtain ⟨c', ec⟩ := hfr (y, .free) (PySem.mem_of_lookup c2) rfl
    have ec2 := hsub _ _ ec
    rcases lk with ⟨kl, _⟩ | ⟨_, c, e, z⟩
    · have kl' : X.env.scope.names.lookup y = some .local := kl
      rcases vis with q | q
      · have q' : X.env.scope.names.lookup y = some .cell := q
        rw [kl'] at q'; cases q'
      · have q' : X.env.scope.names.lookup y = some .free := q
        rw [kl'] at q'; cases q'
    · have ecc : X.env.cells.lookup y = some c' := ec2
      rw [e] at ecc
      cases ecc
      refine ⟨u, r, .inr ⟨?_, _, ec, ?_⟩⟩
      · rcases e3 with q | q | q
        · rcases relabel_lookup q with ⟨_, n2⟩ | ⟨n1, _⟩
          · rw [c2] at n2; cases n2
          · cases n1
        · exact .inl q
        · exact .inr q
      · obtain ⟨o, ho, hd⟩ := z
        exact ⟨o, hk _ _ ho, hd⟩
  · obtain ⟨v, o, ho, hd⟩ := I.cell x c (hsub x c e)
    exact ⟨v, o, hk _ _ ho, hd⟩
  · show (capS cap σ).length = Nc.length
    rw [capS, List.length_map, B.len]
theorem blk_out {Nc : List Str} {scope : Scope} {cl : List (Str × Addr)} {fp : List Addr} {σc : St} {Hc : Hp} {s' : Shared} {h' : Heap} (I : Inv X pins σ H s) (hf : ∀ b ∈ fp, FpOk X pins H b) (J : Inv (X.blk Nc scope cl s H fp) [] σc Hc s')
    (hs : Heap.SameBut s.heap.objs.size s'.heap h') : Inv X pins σ Hc { s' with heap := h' } := by
  have ne : ∀ b o, s.heap.get? b = some o → b ≠ s.heap.objs.size := fun b o e => Nat.ne_of_lt (Heap.lt_size e)
  have u := J.base
  refine I.call' (ch := fp) J.os ⟨fun b o e n hb hx => (hs.2 b (ne b o e)).trans (u.keep b o e n hb hx), fun b o e n hb hx => ?_, u.free, fun b o e hx => ?_, u.tups, u.frzs, u.tbls⟩ (fun b ob e => ?_) J.bare fun b hb => ⟨(hf b hb).2.2.2.1, (hf b hb).2.1, (hf b hb).2.2.2.2.1, (hf b hb).2.2.2.2.2⟩
  · obtain ⟨sl, q⟩ := u.slot b o e n hb hx
    exact ⟨sl, (hs.2 b (ne b o e)).trans q⟩
  · obtain ⟨o', q⟩ := u.there b o e hx
    exact ⟨o', (hs.2 b (ne b o e)).trans q⟩
  · have hC : Hc s.heap.objs.size = none := J.free
    refine (J.hok b ob e).stay (fun c w' hc q => (hs.2 c ?_).trans q) (fun _ q => q) fun _ _ q => q
    rintro rfl
    rcases hc with z | hc
    · rw [← z, hC] at e; cases e
    · rw [hC] at hc; cases hc
end
theorem Inv.turns {X : Cx} {pins : List (Addr × Obj)} {σ : St} {H : Hp} {s : Shared} {h' : Heap} {t' : Nat} {ch : List Addr} (I : Inv X pins σ H s) (k : ∀ b o, b ∉ ch → s.heap.get? b = some o → h'.get? b = some o) (hf : ∀ b ∈ ch, FpOk X pins H b) : Inv X pins σ H { s with heap := h', toks := t' } := by
  refine I.call (g' := s.gens) (d' := s.drawn) (ch := ch) ⟨fun b o e _ _ hx => k b o hx e, fun b o e _ _ hx => ⟨o.slots, k b o hx e⟩, fun _ _ _ n _ => n, fun b o e hx => ⟨o, k b o hx e⟩, fun _ _ q => q, fun _ _ _ q => q, fun _ ps q => ⟨#[], by rw [q]; simp⟩⟩ (fun b u e => ?_) I.bare
    fun b hb => ⟨(hf b hb).2.2.2.1, (hf b hb).2.1, (hf b hb).2.2.2.2.1, (hf b hb).2.2.2.2.2⟩
  refine (I.hok b u e).stay (fun c v hc q => k c v (fun z => ?_) q) (fun _ q => q) fun _ _ q => q
  have n := (hf c z).1
  rcases hc with r | r
  · rw [r, e] at n; cases n
  · rw [r] at n; cases n
theorem comp_core {X : Cx} {pins : List (Addr × Obj)} {s : Shared} {σ : St} {H : Hp} {Q : VK} {sc : Scope} {N Nc : List Str} {cap : List (Option Nat)} {elt tg iter : Expr} {ifs : List Expr} {scope : Scope} {pos pos' : Pos} {wi : TI} {g : TG} {tt : TT} {te : TE} {use : Option (Value → Sem Unit)} {QQ : Value → Shared → Prop}
    (hc : X.calm = true) (hsc : X.env.scope = sc) (hN : X.N = N) (B : BlkOk sc N Nc cap scope) (hi : PI X tg iter wi)
    (hg : ∀ cl s H fp, PG (X.blk Nc scope cl s H fp) tg g) (ht : ∀ cl s H fp, PTs (X.blk Nc scope cl s H fp) ifs tt) (he : ∀ cl s H fp, PE (X.blk Nc scope cl s H fp) elt te)
    (hs : ∀ x, foldedSetIterable iter X.env x = pure x) (I : Inv X pins σ H s) (h : tComp wi g tt te cap σ H Q)
    (fin : ∀ (s3 : Shared) (H3 : Hp) (cl : List (Str × Addr)) (fp : List Addr) (D : Addr) (σc : St) (Hc : Hp) (s6 : Shared), Inv X pins σ H3 s3 → (∀ b ∈ fp, FpOk X pins H3 b) → Inv (X.blk Nc scope cl s3 H3 fp) [] σc Hc s6 → Q (.ref D) Hc → compPost (model X.prog X.w) X.A X.xe use QQ (.ref D) s3.heap.objs.size (.ok .next) s6) :
    wpAny (model X.prog X.w) X.A (comprehension (.ListComp elt [⟨tg, iter, ifs, 0⟩] scope pos) scope X.env pos' (newList []) false (eval iter X.env) use) QQ X.xe s := by
  subst hsc hN
  obtain ⟨cl, hclos, hsub, hfr⟩ := closure_ok (scope := scope) (env := X.env) fun y hy hf => I.ok.has y.1 (B.free y hy hf)
  refine wpAny_comprehension_free (use := use) rfl hs hclos B.kind (fun y hy hl => by rw [B.once y hy, hl]) (thn (hi pins s σ H _ I h) fun v s1 h1 => thn h1 fun itv s2 h2 => ?_)
  obtain ⟨it, fp, tn, J, H2, rfl, I2, T, st2, f2, hw⟩ := h2
  refine wpAny_newObj_type ?_
  have hfree : H2 s2.heap.objs.size = none := I2.hok.fresh (Nat.le_refl _)
  have I3 := I2.laid (t' := s2.toks) (o := .lst []) (fun b u e => Heap.get?_push_of_some { cls := .type "list", dict := none, data := .seq ([] : List Value).toArray } e) (Nat.le_refl _) ⟨by decide, [], 0, .nil, Heap.get?_push_size _ rfl⟩
  obtain ⟨W, ⟨m0, w0⟩, turn⟩ := hw _ hfree
  have keep23 : ∀ b o, s2.heap.get? b = some o → (s2.heap.push { cls := .type "list", dict := none, data := .seq ([] : List Value).toArray }).get? b = some o := fun b o e => Heap.get?_push_of_some _ e
  have hin : ∀ b ∈ fp, b < s2.heap.objs.size := fun b hb => let ⟨o, e, _⟩ := T.obj 0 _ st2 b hb; Heap.lt_size e
  have f3 : ∀ b ∈ fp, FpOk X pins (upd H2 s2.heap.objs.size (.lst [])) b := fun b hb => ⟨by rw [upd_ne (Nat.ne_of_lt (hin b hb))]; exact (f2 b hb).1, (f2 b hb).2⟩
  have st3 := T.keep 0 _ _ st2 fun b _ o e => keep23 b o e
  have hin3 : ∀ b ∈ fp, b < (s2.heap.push { cls := .type "list", dict := none, data := .seq ([] : List Value).toArray }).objs.size := fun b hb => let ⟨o, e, _⟩ := T.obj 0 _ st3 b hb; Heap.lt_size e
  clear keep23 hin
  generalize s2.heap.push { cls := .type "list", dict := none, data := .seq ([] : List Value).toArray } = h3 at I3 st3 hin3 ⊢
  generalize upd H2 s2.heap.objs.size (.lst []) = H3 at I3 f3 w0
  generalize s2.heap.objs.size = D at hfree w0 turn ⊢
  refine wpAny_newFunctionEnv B.nocell (by intro y hy; cases hy) (fun h1 hns hsb => ?_) B.kind
  have keep : ∀ b o, h3.get? b = some o → h1.get? b = some o := fun b o e => (hsb.2 b (Nat.ne_of_lt (Heap.lt_size e))).trans (Heap.get?_push_of_some _ e)
  have I4 := blk_inv (tk := s2.toks + ([] : List (Str × Value)).length) I3 B hsub hfr f3 hin3 keep hns
  have st4 := T.keep 0 _ _ st3 fun b _ o e => keep b o e
  have stat : ∀ {H' : Hp}, (∀ b ∈ fp, H' b = none) → ∀ b ∈ fp, FpOk (X.blk Nc scope cl { s2 with heap := h3, toks := s2.toks } H3 fp) [] H' b := fun hn b hb =>
    ⟨hn b hb, Nat.ne_of_lt (hin3 b hb), fun z => by
      rcases List.mem_cons.mp (I3.stkSub b z) with q | q
      · exact (f3 b hb).2.1 q
      · exact (f3 b hb).2.2.1 q, .inl hb, fun x c e => (f3 b hb).2.2.2.2.1 x c (hsub x c e), by intro p hp; cases hp⟩
  have hcb : (X.blk Nc scope cl { s2 with heap := h3, toks := s2.toks } H3 fp).calm = true := hc
  have loop : codeAny (model X.prog X.w) X.A (.compLoop (.ListComp elt [⟨tg, iter, ifs, 0⟩] scope pos) 0 (.ref it) (.ref D) (compEnvC scope cl h3.objs.size X.env)) (compPost (model X.prog X.w) X.A X.xe use QQ (.ref D) h3.objs.size) { s2 with heap := h1, toks := s2.toks + ([] : List (Str × Value)).length } := by
    refine compLoop_any (fun n s' => ∃ i σ' H', Inv (X.blk Nc scope cl { s2 with heap := h3, toks := s2.toks } H3 fp) [] σ' H' s' ∧ tn i s'.heap ∧ (∀ b ∈ fp, H' b = none) ∧ W i n σ' H') rfl ?_ m0 ⟨0, _, H3, I4, st4, fun b hb => (f3 b hb).1, w0⟩
    rintro n s5 ⟨i, σ5, H5, I5, st5, fr5, w5⟩
    rcases turn i n σ5 H5 w5 with ⟨stop, qn⟩ | ⟨go, N', hN', step⟩
    · refine thn (T.done (X.blk Nc scope cl { s2 with heap := h3, toks := s2.toks } H3 fp) rfl rfl rfl hcb i [] s5 σ5 H5 _ I5 (stat fr5) st5 stop) fun r s6 ⟨hr, I6⟩ => ?_
      subst hr
      exact fin { s2 with heap := h3, toks := s2.toks } H3 cl fp D σ5 H5 s6 I3 f3 I6 qn
    · refine thn (T.item (X.blk Nc scope cl { s2 with heap := h3, toks := s2.toks } H3 fp) rfl rfl rfl hcb i [] s5 σ5 H5 _ I5 (stat fr5) st5 go) fun r s6 ⟨u, hr, h6⟩ => ?_
      subst hr
      refine thn h6 fun _ s7 ⟨x, H7, I7, r7, y7, st7, fr7⟩ => ?_
      have I7' := I7.pinned (stat fr7) (T.obj _ _ st7)
      refine wpAny_mono (hg cl _ H3 fp _ s7 σ5 H7 x u _ I7' r7 (step x H7 y7)) (fun _ s8 ⟨σ8, H8, I8, q8⟩ => ?_) fun _ _ z => z.elim
      have again : ∀ {H9 : Hp} {s9 : Shared} {m : Nat}, Inv (X.blk Nc scope cl { s2 with heap := h3, toks := s2.toks } H3 fp) ([] ++ pinsAt fp s7.heap) σ8 H9 s9 → m < n → W (i + 1) m σ8 H9 → ∃ m, m < n ∧ ∃ i σ' H', Inv (X.blk Nc scope cl { s2 with heap := h3, toks := s2.toks } H3 fp) [] σ' H' s9 ∧ tn i s9.heap ∧ (∀ b ∈ fp, H' b = none) ∧ W i m σ' H' := fun {H9 s9 m} I9 hm w9 => by
        refine ⟨m, hm, i + 1, σ8, H9, I9.unpinned, T.keep _ _ _ st7 fun b hb o e => (I9.pin (b, o) (List.mem_append_right _ (List.mem_append_right _ (mem_pinsAt hb e)))).1, fun b hb => ?_, w9⟩
        obtain ⟨o, e, d⟩ := T.obj _ _ st7 b hb
        exact (I9.pin (b, o) (List.mem_append_right _ (List.mem_append_right _ (mem_pinsAt hb e)))).2.1
      refine wpAny_mono (ht cl _ H3 fp _ s8 σ8 H8 _ I8 q8) (fun b s9 ⟨H9, I9, q9⟩ => ?_) fun _ _ z => z.elim
      cases b with
      | false =>
        rw [if_neg (by decide)] at q9
        obtain ⟨m', hm, w9⟩ := hN' _ _ q9
        exact again I9 hm w9
      | true =>
        rw [if_pos rfl] at q9
        refine wpAny_mono (he cl _ H3 fp _ s9 σ8 H9 _ I9 q9) (fun u s10 ⟨y, H10, I10, r10, q10⟩ => ?_) fun _ _ z => z.elim
        refine wpAny_mono (mt_append (X := X.blk Nc scope cl { s2 with heap := h3, toks := s2.toks } H3 fp) _ s10 σ8 H10 (.ref D) [y] (.ref D) [u] _ I10 rfl (.cons r10 .nil) q10) (fun _ s11 ⟨_, H11, I11, _, q11⟩ => ?_) fun _ _ z => z.elim
        obtain ⟨m', hm, w11⟩ := hN' _ _ q11
        exact again I11 hm w11
  exact codeAny_compStart_list loop (T.self _ 0 _ _ _ st4 loop)
theorem pe_comp {X : Cx} {sc : Scope} {N Nc : List Str} {cap : List (Option Nat)} {elt tg iter : Expr} {ifs : List Expr} {scope : Scope} {pos : Pos} {wi : TI} {g : TG} {tt : TT} {te : TE} (hc : X.calm = true) (hsc : X.env.scope = sc) (hN : X.N = N) (B : BlkOk sc N Nc cap scope) (hi : PI X tg iter wi)
    (hg : ∀ cl s H fp, PG (X.blk Nc scope cl s H fp) tg g) (ht : ∀ cl s H fp, PTs (X.blk Nc scope cl s H fp) ifs tt) (he : ∀ cl s H fp, PE (X.blk Nc scope cl s H fp) elt te)
    (hs : ∀ x, foldedSetIterable iter X.env x = pure x := by intro _; rfl) : PE X (.ListComp elt [⟨tg, iter, ifs, 0⟩] scope pos) (tComp wi g tt te cap) := by
  intro pins s σ H Q I h
  rw [eval_ListComp]
  refine comp_core hc hsc hN B hi hg ht he hs I h fun s3 H3 cl fp D σc Hc s6 I3 f3 I6 q => ?_
  obtain ⟨m, hn, _⟩ := id I6.loc
  exact ⟨m, hn, fun h' hs' => ⟨.ref D, Hc, blk_out I3 f3 I6 hs', rfl, q⟩⟩
theorem ps_setComp {X : Cx} {i : Nat} {y : Str} {py spos : Pos} {sc : Scope} {N Nc : List Str} {cap : List (Option Nat)} {elt tg iter : Expr} {ifs : List Expr} {scope : Scope} {pos : Pos} {wi : TI} {g : TG} {tt : TT} {te : TE} (hnd : X.N.Nodup) (hix : X.N[i]? = some y) (hl : X.env.scope.names.lookup y = some .local)
    (hc : X.calm = true) (hsc : X.env.scope = sc) (hN : X.N = N) (B : BlkOk sc N Nc cap scope) (hi : PI X tg iter wi)
    (hg : ∀ cl s H fp, PG (X.blk Nc scope cl s H fp) tg g) (ht : ∀ cl s H fp, PTs (X.blk Nc scope cl s H fp) ifs tt) (he : ∀ cl s H fp, PE (X.blk Nc scope cl s H fp) elt te)
    (hsw : swapsWith (.ListComp elt [⟨tg, iter, ifs, 0⟩] scope pos) (some (.Name y py)) spos.line X.env = pure true := by rfl)
    (hs : ∀ x, foldedSetIterable iter X.env x = pure x := by intro _; rfl) : PS X (.Assign [.Name y py] (.ListComp elt [⟨tg, iter, ifs, 0⟩] scope pos) spos) (tAsg (tComp wi g tt te cap) (gName i)) := by
  intro pins s σ H D0 I h
  rw [exec_Assign_Name_used _ _ _ _ hsw]
  refine wpAny_bind (wpAny_standAt (wpAny_bind (wpAny_bind (thn (comp_core (use := some (assign (.Name y py) X.env)) (QQ := fun _ s' => SP X pins D0 .next s') hc hsc hN B hi hg ht he hs I h fun s3 H3 cl fp D σc Hc s6 I3 f3 I6 q => ?_) fun _ s' hq => wpAny_pure (wpAny_pure hq)))))
  have I6x : Inv X pins σ Hc s6 := blk_out I3 f3 I6 (Heap.SameBut.refl ..)
  obtain ⟨m, hn, _⟩ := id I6.loc
  have hC : Hc s3.heap.objs.size = none := I6.free
  have fpC := I3.fpOk (b := s3.heap.objs.size) (Nat.le_refl _) hC
  refine wpAny_assign_Name (store_ok2 I6x hnd hix (.inl hl) (v := .ref D) rfl (fun s7 I7 ch => ?_) (.inr hl))
  obtain ⟨a, same, ha⟩ := ch
  have nC : s3.heap.objs.size ≠ a := by
    rcases ha with r | r
    · rw [r]; exact fpC.2.1
    · exact (fpC.2.2.2.2.1 _ _ r).symm
  refine ⟨m, hn.sameBut same nC, fun h' hs' => ⟨_, _, I7.turns (t' := s7.toks) (ch := [s3.heap.objs.size]) (fun b o hb e => (hs'.2 b (by simpa using hb)).trans e) fun b hb => ?_, q⟩⟩
  have e : b = s3.heap.objs.size := by simpa using hb
  rw [e]
  exact fpC
theorem comp_list {K : PySem.W.Frag} {a : Addr} {xs : List V} {g : TG} {tt : TT} {te : TE} {σ : St} {H : Hp} {D : Addr} {Q : VK} (Pv : Nat → List V → St → Hp → Prop) (h0 : Pv 0 [] σ (upd H D (.lst []))) (hl : ∀ i ys σ H, i ≤ xs.length → Pv i ys σ H → SqL K H a xs)
    (hs : ∀ i x ys σ H, xs[i]? = some x → H D = some (.lst ys) → Pv i ys σ H → g x σ H fun σ2 H2 => tt σ2 H2 fun b H3 => if b = true then te σ2 H3 fun y H4 => rAppend (.ref D) [y] H4 fun _ H5 => ∃ ys, H5 D = some (.lst ys) ∧ Pv (i + 1) ys σ2 H5 else ∃ ys, H3 D = some (.lst ys) ∧ Pv (i + 1) ys σ2 H3)
    (hd : ∀ ys σ H, H D = some (.lst ys) → Pv xs.length ys σ H → Q (.ref D) H) :
    ∃ W : Nat → Nat → St → Hp → Prop, (∃ m, W 0 m σ (upd H D (.lst []))) ∧ ∀ i m σc Hc, W i m σc Hc →
      ((Itl K a).stop i Hc ∧ Q (.ref D) Hc) ∨ ((Itl K a).go i Hc ∧ ∃ N : St → Hp → Prop, (∀ σ' H', N σ' H' → ∃ m', m' < m ∧ W (i + 1) m' σ' H') ∧ ∀ x H', (Itl K a).yld i Hc x H' → g x σc H' fun σ2 H2 => tt σ2 H2 fun b H3 => if b = true then te σ2 H3 fun y H4 => rAppend (.ref D) [y] H4 fun _ H5 => N σ2 H5 else N σ2 H3) := by
  refine ⟨fun i m σ H => m = xs.length - i ∧ i ≤ xs.length ∧ ∃ ys, H D = some (.lst ys) ∧ Pv i ys σ H, ⟨_, rfl, Nat.zero_le _, [], upd_same, h0⟩, ?_⟩
  rintro i m σ H ⟨rfl, hi, ys, hD, pv⟩
  have q := hl i ys σ H hi pv
  by_cases hlt : i < xs.length
  · refine .inr ⟨⟨xs, xs[i], q, by simp [hlt]⟩, fun σ H => ∃ ys, H D = some (.lst ys) ∧ Pv (i + 1) ys σ H, fun σ' H' p' => ⟨_, by (first|lia|omega), rfl, hlt, p'⟩, fun x H' yl => ?_⟩
    obtain ⟨e, yl⟩ := yl
    subst e
    exact hs i x ys σ _ (yl xs q) hD pv
  · have e : i = xs.length := by (first|lia|omega)
    subst e
    exact .inl ⟨⟨xs, q, Nat.le_refl _⟩, hd ys σ H hD pv⟩
theorem comp_range {lo : Int} {n : Nat} {g : TG} {tt : TT} {te : TE} {σ : St} {H : Hp} {D : Addr} {Q : VK} (Pv : Nat → List V → St → Hp → Prop) (h0 : Pv 0 [] σ (upd H D (.lst [])))
    (hs : ∀ i ys σ H, i < n → H D = some (.lst ys) → Pv i ys σ H → g (.int (lo + i)) σ H fun σ2 H2 => tt σ2 H2 fun b H3 => if b = true then te σ2 H3 fun y H4 => rAppend (.ref D) [y] H4 fun _ H5 => ∃ ys, H5 D = some (.lst ys) ∧ Pv (i + 1) ys σ2 H5 else ∃ ys, H3 D = some (.lst ys) ∧ Pv (i + 1) ys σ2 H3)
    (hd : ∀ ys σ H, H D = some (.lst ys) → Pv n ys σ H → Q (.ref D) H) :
    ∃ W : Nat → Nat → St → Hp → Prop, (∃ m, W 0 m σ (upd H D (.lst []))) ∧ ∀ i m σc Hc, W i m σc Hc →
      ((Itr lo n).stop i Hc ∧ Q (.ref D) Hc) ∨ ((Itr lo n).go i Hc ∧ ∃ N : St → Hp → Prop, (∀ σ' H', N σ' H' → ∃ m', m' < m ∧ W (i + 1) m' σ' H') ∧ ∀ x H', (Itr lo n).yld i Hc x H' → g x σc H' fun σ2 H2 => tt σ2 H2 fun b H3 => if b = true then te σ2 H3 fun y H4 => rAppend (.ref D) [y] H4 fun _ H5 => N σ2 H5 else N σ2 H3) := by
  refine ⟨fun i m σ H => m = n - i ∧ i ≤ n ∧ ∃ ys, H D = some (.lst ys) ∧ Pv i ys σ H, ⟨_, rfl, Nat.zero_le _, [], upd_same, h0⟩, ?_⟩
  rintro i m σ H ⟨rfl, hi, ys, hD, pv⟩
  by_cases hlt : i < n
  · refine .inr ⟨hlt, fun σ H => ∃ ys, H D = some (.lst ys) ∧ Pv (i + 1) ys σ H, fun σ' H' p' => ⟨_, by (first|lia|omega), rfl, hlt, p'⟩, fun x H' yl => ?_⟩
    obtain ⟨e, yl⟩ := yl
    subst e yl
    exact hs i ys σ _ hlt hD pv
  · have e : i = n := by (first|lia|omega)
    subst e
    exact .inl ⟨Nat.le_refl _, hd ys σ H hD pv⟩
end L2
namespace L2
open PySem PySem.Spec PyProof.Rows
theorem range_all (bs : List Bool) : (List.range bs.length).all (fun i => bs.getD i false) = bs.all id := by
  rw [Bool.eq_iff_iff, List.all_eq_true, List.all_eq_true]
  constructor
  · intro h x hx
    obtain ⟨i, hi, e⟩ := List.getElem_of_mem hx
    have := h i (List.mem_range.mpr hi)
    rw [List.getD_eq_getElem?_getD, List.getElem?_eq_getElem hi] at this
    rw [← e]
    exact this
  · intro h i hi
    have hi := List.mem_range.mp hi
    rw [List.getD_eq_getElem?_getD, List.getElem?_eq_getElem hi]
    exact h _ (List.getElem_mem hi)
def rAll (K : PySem.W.Frag) : List V → Hp → VK → Prop := fun xs H Q => ∃ (p : Addr) (bs : List Bool), xs = [.ref p] ∧ SqL K H p (bs.map V.bl) ∧ Q (.bl (bs.all id)) H
def rAny (K : PySem.W.Frag) : List V → Hp → VK → Prop := fun xs H Q => ∃ (p : Addr) (bs : List Bool), xs = [.ref p] ∧ SqL K H p (bs.map V.bl) ∧ Q (.bl (bs.any id)) H
def rSum (K : PySem.W.Frag) : List V → Hp → VK → Prop := fun xs H Q => ∃ (p : Addr) (ns : List Int), xs = [.ref p] ∧ SqL K H p (ns.map V.int) ∧ Q (.int ns.sum) H
theorem val_bl {bs : List Bool} {its : List Value} {i : Nat} {v : Value} (r : Vals (bs.map V.bl) its) (e : its.toArray[i]? = some v) : v = .bool (bs.getD i false) := by
  have l := r.length
  rw [List.length_map] at l
  have e' : its[i]? = some v := by simpa using e
  have hi : i < bs.length := by rw [l]; exact (List.getElem?_eq_some_iff.mp e').1
  obtain ⟨u, hu, ru⟩ := r.get (i := i) (x := .bl bs[i]) (by rw [List.getElem?_map, List.getElem?_eq_getElem hi]; rfl)
  rw [e'] at hu
  cases hu
  cases ru
  rw [List.getD_eq_getElem?_getD, List.getElem?_eq_getElem hi]
  rfl
theorem truth_bl {P : Program} {w : World} {A : Around} {bs : List Bool} {its : List Value} (r : Vals (bs.map V.bl) its) : TruthOf P w A (fun i v => its.toArray[i]? = some v) fun i => bs.getD i false := fun i v s Q E hP hQ => by
  rw [val_bl r hP]
  exact wpAny_pure hQ
section
variable {X : Cx}
theorem call_all (hc : X.calm = true) : CallR X (.builtin "all") (rAll X.K) := by
  intro pins s σ H xs us Q I r h
  obtain ⟨p, bs, rfl, hl, q⟩ := h
  obtain ⟨u, rfl, ru⟩ := r.one
  cases ru
  obtain ⟨its, rv, pl, _⟩ := I.list hl
  have l := rv.length
  rw [List.length_map] at l
  obtain ⟨o, n, e, _⟩ := id pl
  have hne : p ≠ s.heap.objs.size := Nat.ne_of_lt (Heap.lt_size e)
  refine call_all_walk (wpAny_pyIter_list pl.isList ?_)
  refine ⟨s.heap.objs.size, _, _, _, _, _, fun i => bs.getD i false, rfl, Walks.list (A := X.A.in1) (I.ok.hd hc) _ p hne its.toArray, ⟨⟨_, Heap.get?_push_size _ rfl, rfl, rfl⟩, ?_⟩, truth_bl rv, fun h' tk hk => ⟨.bl _, H, I.kept fun b u eb => ?_, rfl, ?_⟩⟩
  · exact pl.isList.at fun o e => Heap.get?_push_of_some _ e
  · exact hk b u (fun z => Nat.ne_of_lt (Heap.lt_size eb) (by simpa using z)) (Heap.get?_push_of_some _ eb)
  · rw [List.size_toArray, ← l, range_all]
    exact q
theorem val_int {ns : List Int} {its : List Value} {i : Nat} {v : Value} (r : Vals (ns.map V.int) its) (e : its.toArray[i]? = some v) : ∃ t, v = .int (ns.getD i 0) t := by
  have l := r.length
  rw [List.length_map] at l
  have e' : its[i]? = some v := by simpa using e
  have hi : i < ns.length := by rw [l]; exact (List.getElem?_eq_some_iff.mp e').1
  obtain ⟨u, hu, ru⟩ := r.get (i := i) (x := .int ns[i]) (by rw [List.getElem?_map, List.getElem?_eq_getElem hi]; rfl)
  rw [e'] at hu
  cases hu
  obtain ⟨t, rfl⟩ := ru
  refine ⟨t, ?_⟩
  rw [List.getD_eq_getElem?_getD, List.getElem?_eq_getElem hi]
  rfl
theorem preSum_sum (ns : List Int) : ∀ k, k ≤ ns.length → preSum (fun i => ns.getD i 0) k = (ns.take k).sum
  | 0, _ => by simp [preSum]
  | k + 1, h => by
    rw [preSum, preSum_sum ns k (by (first|lia|omega)), List.take_add_one, List.getElem?_eq_getElem (by (first|lia|omega)), List.sum_append, List.getD_eq_getElem?_getD, List.getElem?_eq_getElem (by (first|lia|omega))]
    simp
theorem call_sum (hc : X.calm = true) : CallR X (.builtin "sum") (rSum X.K) := by
  intro pins s σ H xs us Q I r h
  obtain ⟨p, ns, rfl, hl, q⟩ := h
  obtain ⟨u, rfl, ru⟩ := r.one
  cases ru
  obtain ⟨its, rv, pl, _⟩ := I.list hl
  have l := rv.length
  rw [List.length_map] at l
  obtain ⟨o, n, e, _⟩ := id pl
  have hlt := Heap.lt_size e
  have hne : p ≠ s.heap.objs.size := Nat.ne_of_lt hlt
  refine call_sum_walkG (wpAny_pyIter_list pl.isList ?_)
  refine ⟨s.heap.objs.size, _, _, _, _, _, fun i => ns.getD i 0, rfl, Walks.list (A := X.A.in1) (I.ok.hd hc) _ p hne its.toArray, ⟨⟨_, Heap.get?_push_size _ rfl, rfl, rfl⟩, ?_⟩, fun b hb => ?_, fun i v hv => val_int rv hv, fun h' tk t' hk => ⟨.int _, H, I.kept fun b u eb => ?_, ⟨t', rfl⟩, ?_⟩⟩
  · exact pl.isList.at fun o e => Heap.get?_push_of_some _ e
  · rw [Heap.size_push]
    rcases List.mem_cons.mp hb with z | z
    · rw [z]; exact Nat.lt_succ_self _
    · have z' : b = p := by simpa using z
      rw [z']; exact Nat.lt_succ_of_lt hlt
  · exact hk b u (fun z => Nat.ne_of_lt (Heap.lt_size eb) (by simpa using z)) (Heap.get?_push_of_some _ eb)
  · rw [List.size_toArray, ← l, preSum_sum _ _ (Nat.le_refl _), List.take_length]
    exact q
end
end L2
namespace L2
open PySem PySem.Spec PyProof.Rows
def Itz (K : PySem.W.Frag) (p q : Addr) : It where
  go := fun i H => ∃ xs ys a b, SqL K H p xs ∧ SqL K H q ys ∧ xs[i]? = some a ∧ ys[i]? = some b
  yld := fun i H x H' => ∃ t a b, x = .ref t ∧ H t = none ∧ H' = upd H t (.tup [a, b]) ∧ (∀ xs, SqL K H p xs → xs[i]? = some a) ∧ ∀ ys, SqL K H q ys → ys[i]? = some b
  stop := fun i H => ∃ xs ys, SqL K H p xs ∧ SqL K H q ys ∧ i = min xs.length ys.length
def tnZ (z TI TO i1 i2 p q : Addr) (i : Nat) (h : Heap) : Prop := IsZip h z TI TO .none ∧ IsPair h TI (.ref i1) (.ref i2) ∧ (∃ a b, IsPair h TO a b) ∧ h.IsListIter i1 p i ∧ h.IsListIter i2 q i
theorem tnZ_keep {z TI TO i1 i2 p q : Addr} {i : Nat} {h h' : Heap} (st : tnZ z TI TO i1 i2 p q i h) (k : ∀ b ∈ [z, TI, TO, i1, i2], ∀ o, h.get? b = some o → h'.get? b = some o) : tnZ z TI TO i1 i2 p q i h' := by
  obtain ⟨a1, a2, ⟨x, y, a3⟩, a4, a5⟩ := st
  exact ⟨k z (by simp) _ a1, k TI (by simp) _ a2, ⟨x, y, k TO (by simp) _ a3⟩, a4.at fun o e => k i1 (by simp) o e, a5.at fun o e => k i2 (by simp) o e⟩
theorem fields_nocell {o : Obj} {vs : Array Value} (h : o.data = .fields vs) : ∀ v, o.data ≠ .cell v := fun v z => by rw [h] at z; cases z
theorem turn_zip {P : Program} {w : World} {K : PySem.W.Frag} {elts : List Expr} {k : Nat} {pos : Pos} {z TI TO i1 i2 p q : Addr} (D : ZipApart z TI TO i1 i2 p q) : Turn P w K (.Tuple elts k pos) (Itz K p q) [z, TI, TO, i1, i2] z (tnZ z TI TO i1 i2 p q) where
  mem := by simp
  obj := fun i h st b hb => by
    obtain ⟨a1, a2, ⟨x, y, a3⟩, ⟨o4, a4, _, d4⟩, ⟨o5, a5, _, d5⟩⟩ := st
    simp only [List.mem_cons,List.not_mem_nil,or_false] at hb
    rcases hb with rfl | rfl | rfl | rfl | rfl
    · exact ⟨_, a1, fields_nocell rfl⟩
    · exact ⟨_, a2, fun v z => nomatch (show Data.seq _ _ = Data.cell v from z)⟩
    · exact ⟨_, a3, fun v z => nomatch (show Data.seq _ _ = Data.cell v from z)⟩
    · exact ⟨_, a4, fields_nocell d4⟩
    · exact ⟨_, a5, fields_nocell d5⟩
  keep := fun i h h' st kk => tnZ_keep st kk
  item := by
    intro X hP hw hK hc i pins s σ H E I hf st hg
    subst hP hw hK
    obtain ⟨xs, ys, a, b, hx, hy, ea, eb⟩ := hg
    obtain ⟨its1, r1, pl1, z1⟩ := I.list hx
    obtain ⟨its2, r2, pl2, z2⟩ := I.list hy
    obtain ⟨ua, eua, rua⟩ := r1.get ea
    obtain ⟨ub, eub, rub⟩ := r2.get eb
    obtain ⟨s1, s2, s3, s4, s5⟩ := st
    have W := WalksT.zip2 (prog := X.prog) (w := X.w) (A := X.A) (I.ok.hd hc) z TI TO i1 i2 p q D its1.toArray its2.toArray
    have hi : i < min its1.toArray.size its2.toArray.size := by
      have h1 := (List.getElem?_eq_some_iff.mp eua).1
      have h2 := (List.getElem?_eq_some_iff.mp eub).1
      simp only [List.size_toArray]
      (first|lia|omega)
    refine W.item i s _ _ hi ⟨s1, s2, s3, s4, s5, pl1.isList, pl2.isList⟩ fun T vals h' tk hp hT hTup mid kk => ⟨_, rfl, ?_⟩
    obtain ⟨u, v, e1, e2, rfl⟩ := hp
    have e1' : u = ua := by
      have : its1[i]? = some u := by simpa using e1
      rw [eua] at this; cases this; rfl
    have e2' : v = ub := by
      have : its2[i]? = some v := by simpa using e2
      rw [eub] at this; cases this; rfl
    subst e1' e2'
    refine W.go elts k pos i T { s with heap := h', toks := tk } _ _ mid fun h2 st2 kk2 => ?_
    obtain ⟨t1, t2, t3, t4, t5, _, _⟩ := st2
    have sub : ∀ b ∈ [z, TO, i1, i2], b ∈ [z, TI, TO, i1, i2] := fun b hb => by
      simp only [List.mem_cons,List.not_mem_nil,or_false] at hb ⊢
      rcases hb with h | h | h | h <;> simp [h]
    have I1 : Inv X pins σ H { s with heap := h2, toks := tk } := I.turns (ch := [z, TO, i1, i2]) (fun b o hb e => kk2 b o hb (kk b o hb e)) fun b hb => hf b (sub b hb)
    have nT : H T = none := I.hok.fresh hT
    have I2 := I1.track (a := T) (o := .tup [a, b]) nT (Heap.get?_none_of_le (Nat.le_trans I.sz hT)) (Nat.ne_of_gt (Nat.lt_of_lt_of_le I.lt hT)) (fun x c e => by
      obtain ⟨v, q⟩ := I.cell x c e
      exact Nat.ne_of_lt (Nat.lt_of_lt_of_le q.lt hT)) (fun p hp => Nat.ne_of_lt (Nat.lt_of_lt_of_le (Heap.lt_size (I.pin p hp).1) hT)) (by
      refine ⟨by show 2 ≤ sizeLine; decide, [u, v], .cons rua (.cons rub .nil), ?_⟩
      obtain ⟨o, ho, hcl, hd⟩ := hTup
      exact ⟨o, kk2 T o (W.apart i T h' mid) ho, hcl, hd⟩)
    refine ⟨.ref T, _, I2, rfl, ⟨T, a, b, rfl, nT, rfl, fun xs' h' => ?_, fun ys' h' => ?_⟩, ⟨t1, t2, t3, t4, t5⟩, fun b hb => ?_⟩
    · rw [I.list_inj h' hx]; exact ea
    · rw [I.list_inj h' hy]; exact eb
    · have hb2 : ∃ o, s.heap.get? b = some o := by
        obtain ⟨x3, y3, s3⟩ := s3
        obtain ⟨o4, s4, _⟩ := s4
        obtain ⟨o5, s5, _⟩ := s5
        simp only [List.mem_cons,List.not_mem_nil,or_false] at hb
        rcases hb with h | h | h | h | h <;> rw [h] <;> first | exact ⟨_, s1⟩ | exact ⟨_, s2⟩ | exact ⟨_, s3⟩ | exact ⟨_, s4⟩ | exact ⟨_, s5⟩
      obtain ⟨o, e⟩ := hb2
      rw [upd_ne (Nat.ne_of_lt (Nat.lt_of_lt_of_le (Heap.lt_size e) hT))]
      exact (hf b hb).1
  done := by
    intro X hP hw hK hc i pins s σ H E I hf st hg
    subst hP hw hK
    obtain ⟨xs, ys, hx, hy, rfl⟩ := hg
    obtain ⟨its1, r1, pl1, z1⟩ := I.list hx
    obtain ⟨its2, r2, pl2, z2⟩ := I.list hy
    obtain ⟨s1, s2, s3, s4, s5⟩ := st
    have W := WalksT.zip2 (prog := X.prog) (w := X.w) (A := X.A) (I.ok.hd hc) z TI TO i1 i2 p q D its1.toArray its2.toArray
    have sub : ∀ b ∈ [z, TO, i1, i2], b ∈ [z, TI, TO, i1, i2] := fun b hb => by
      simp only [List.mem_cons,List.not_mem_nil,or_false] at hb ⊢
      rcases hb with h | h | h | h <;> simp [h]
    refine W.done s _ _ ?_ fun h' tk kk => ⟨rfl, I.turns (ch := [z, TO, i1, i2]) (fun b o hb e => kk b o hb e) fun b hb => hf b (sub b hb)⟩
    rw [List.size_toArray, List.size_toArray, ← r1.length, ← r2.length]
    exact ⟨s1, s2, s3, s4, s5, pl1.isList, pl2.isList⟩
  self := fun A i s Q E st h => wpAny_pyIter_zip st.1 h
def iZip (K : PySem.W.Frag) (ta : TA) : TI := fun σ H R => ta σ H fun vs H1 => ∃ p q, vs = [.ref p, .ref q] ∧ (∃ xs, SqL K H1 p xs) ∧ (∃ ys, SqL K H1 q ys) ∧ R (Itz K p q) H1
theorem pi_zip {X : Cx} {a b : Expr} {elts : List Expr} {k : Nat} {tp p pos : Pos} {ta : TA} (hg : Gl X "zip") (hm : X.mg "zip" = none) (ha : PA X [a, b] ta) (hs : starEach [a, b] X.env = [(false, eval a X.env), (false, eval b X.env)] := by rfl) (hs2 : starEach [b] X.env = [(false, eval b X.env)] := by rfl) :
    PI X (.Tuple elts k tp) (.Call (.Name "zip" p) [a, b] [] pos) (iZip X.K ta) := by
  intro pins s σ H R I h
  refine Call_ (ld_blt I hg hm boot_zip (PyProof.Rows.callWith_type1 (thn (ha pos pins s σ H _ I h) fun us s1 ⟨vs, H1, I1, r1, q1⟩ => ?_) (by rw [hs, hs2]) (by rw [hs2]; rfl)))
  obtain ⟨p1, p2, rfl, ⟨xs, hx⟩, ⟨ys, hy⟩, q⟩ := q1
  obtain ⟨u, v, rfl, ru, rv⟩ := vals2 r1
  cases ru
  cases rv
  obtain ⟨its1, _, pl1, _⟩ := I1.list hx
  obtain ⟨its2, _, pl2, _⟩ := I1.list hy
  have a1 : p1 < s1.heap.objs.size := by obtain ⟨_, e, _⟩ := pl1.isList; exact Heap.lt_size e
  have a2 : p2 < s1.heap.objs.size := by obtain ⟨_, e, _⟩ := pl2.isList; exact Heap.lt_size e
  refine call_zip_2 pl1.isList pl2.isList fun h' hz hTI hTO hi1 hi2 hsz hk => ?_
  refine wpAny_pyIter_zip hz ?_
  refine ⟨_, _, _, _, H1, rfl, I1.kept (t' := s1.toks) hk, turn_zip (zipApart_new a1 a2), ⟨hz, hTI, ⟨_, _, hTO⟩, hi1, hi2⟩, fun b hb => ?_, q⟩
  have hb' : s1.heap.objs.size ≤ b := by
    simp only [List.mem_cons,List.not_mem_nil,or_false] at hb
    rcases hb with h | h | h | h | h <;> rw [h] <;> first | exact Nat.le_refl _ | exact Nat.le_add_right _ _
  exact I1.fpOk hb' (I1.hok.fresh hb')
theorem comp_zip {K : PySem.W.Frag} {p q : Addr} {xs zs : List V} {g : TG} {tt : TT} {te : TE} {σ : St} {H : Hp} {D : Addr} {Q : VK} (Pv : Nat → List V → St → Hp → Prop) (h0 : Pv 0 [] σ (upd H D (.lst [])))
    (hl : ∀ i ys σ H, i ≤ min xs.length zs.length → Pv i ys σ H → SqL K H p xs ∧ SqL K H q zs)
    (hs : ∀ i x z t ys σ H, xs[i]? = some x → zs[i]? = some z → H D = some (.lst ys) → Pv i ys σ H → H t = none → g (.ref t) σ (upd H t (.tup [x, z])) fun σ2 H2 => tt σ2 H2 fun b H3 => if b = true then te σ2 H3 fun y H4 => rAppend (.ref D) [y] H4 fun _ H5 => ∃ ys, H5 D = some (.lst ys) ∧ Pv (i + 1) ys σ2 H5 else ∃ ys, H3 D = some (.lst ys) ∧ Pv (i + 1) ys σ2 H3)
    (hd : ∀ ys σ H, H D = some (.lst ys) → Pv (min xs.length zs.length) ys σ H → Q (.ref D) H) :
    ∃ W : Nat → Nat → St → Hp → Prop, (∃ m, W 0 m σ (upd H D (.lst []))) ∧ ∀ i m σc Hc, W i m σc Hc →
      ((Itz K p q).stop i Hc ∧ Q (.ref D) Hc) ∨ ((Itz K p q).go i Hc ∧ ∃ N : St → Hp → Prop, (∀ σ' H', N σ' H' → ∃ m', m' < m ∧ W (i + 1) m' σ' H') ∧ ∀ x H', (Itz K p q).yld i Hc x H' → g x σc H' fun σ2 H2 => tt σ2 H2 fun b H3 => if b = true then te σ2 H3 fun y H4 => rAppend (.ref D) [y] H4 fun _ H5 => N σ2 H5 else N σ2 H3) := by
  refine ⟨fun i m σ H => m = min xs.length zs.length - i ∧ i ≤ min xs.length zs.length ∧ ∃ ys, H D = some (.lst ys) ∧ Pv i ys σ H, ⟨_, rfl, Nat.zero_le _, [], upd_same, h0⟩, ?_⟩
  rintro i m σ H ⟨rfl, hi, ys, hD, pv⟩
  obtain ⟨hx, hz⟩ := hl i ys σ H hi pv
  by_cases hlt : i < min xs.length zs.length
  · have l1 : i < xs.length := by (first|lia|omega)
    have l2 : i < zs.length := by (first|lia|omega)
    refine .inr ⟨⟨xs, zs, xs[i], zs[i], hx, hz, by simp [l1], by simp [l2]⟩, fun σ H => ∃ ys, H D = some (.lst ys) ∧ Pv (i + 1) ys σ H, fun σ' H' p' => ⟨_, by (first|lia|omega), rfl, hlt, p'⟩, fun x H' yl => ?_⟩
    obtain ⟨t, a, b, rfl, ht, rfl, e1, e2⟩ := yl
    exact hs i a b t ys σ H (e1 xs hx) (e2 zs hz) hD pv ht
  · have e : i = min xs.length zs.length := by (first|lia|omega)
    subst e
    exact .inl ⟨⟨xs, zs, hx, hz, rfl⟩, hd ys σ H hD pv⟩
end L2
namespace L2
open PySem PySem.Spec PyProof.Rows
inductive Tr where
  | int (i : Int)
  | bl (b : Bool)
  | str (x : Str)
  | non
  | lst (l : List Tr)
  | tup (l : List Tr)
inductive Shows (K : PySem.W.Frag) (H : Hp) : Nat → Tr → V → Prop where
  | int {n : Nat} (i : Int) : Shows K H n (.int i) (.int i)
  | bl {n : Nat} (b : Bool) : Shows K H n (.bl b) (.bl b)
  | str {n : Nat} (x : Str) : Shows K H n (.str x) (.str x)
  | non {n : Nat} : Shows K H n .non .non
  | lst {n : Nat} {p : Addr} {xs : List V} {ts : List Tr} (h : SqL K H p xs) (l : xs.length = ts.length) (e : ∀ (i : Nat) x t, xs[i]? = some x → ts[i]? = some t → Shows K H n t x) : Shows K H (n + 1) (.lst ts) (.ref p)
  | tup {n : Nat} {p : Addr} {xs : List V} {ts : List Tr} (h : SqT K H p xs) (l : xs.length = ts.length) (e : ∀ (i : Nat) x t, xs[i]? = some x → ts[i]? = some t → Shows K H n t x) : Shows K H (n + 1) (.tup ts) (.ref p)
section
variable {X : Cx} {pins : List (Addr × Obj)} {σ : St} {H : Hp} {s : Shared}
theorem items_eq {A : Around} {n : Nat} {xs ys : List V} {ts : List Tr} {us vs : List Value} (lx : xs.length = ts.length) (ly : ys.length = ts.length) (r1 : Vals xs us) (r2 : Vals ys vs)
    (ih : ∀ (i : Nat) x t, xs[i]? = some x → ts[i]? = some t → ∀ y, Shows X.K H n t y → ∀ (u v : Value) (A : Around), RelV x u → RelV y v → A.units + n < cLine → SeqAt.EqAt A s u v true)
    (ey : ∀ (i : Nat) y t, ys[i]? = some y → ts[i]? = some t → Shows X.K H n t y) (hu : A.units + (n + 1) < cLine) :
    ∀ j (h1 : j < us.toArray.size) (h2 : j < vs.toArray.size), SeqAt.EqAt A.in1 s us.toArray[j] vs.toArray[j] true := by
  intro j h1 h2
  have k1 : j < xs.length := by rw [r1.length]; simpa using h1
  have k2 : j < ys.length := by rw [r2.length]; simpa using h2
  have k3 : j < ts.length := by (first|lia|omega)
  obtain ⟨u, e1, ru⟩ := r1.get (List.getElem?_eq_getElem k1)
  obtain ⟨v, e2, rv⟩ := r2.get (List.getElem?_eq_getElem k2)
  have q1 : us.toArray[j] = u := by
    have := (List.getElem?_eq_some_iff.mp e1).2
    simpa using this
  have q2 : vs.toArray[j] = v := by
    have := (List.getElem?_eq_some_iff.mp e2).2
    simpa using this
  rw [q1, q2]
  exact ih j _ _ (List.getElem?_eq_getElem k1) (List.getElem?_eq_getElem k3) _ (ey j _ _ (List.getElem?_eq_getElem k2) (List.getElem?_eq_getElem k3)) u v A.in1 ru rv (by show A.units + 1 + n < cLine; (first|lia|omega))
theorem all_true (n : Nat) : (List.range n).all (fun _ => true) = true := by simp
theorem deep_eq (I : Inv X pins σ H s) {n : Nat} {t : Tr} {x : V} (hx : Shows X.K H n t x) : ∀ y, Shows X.K H n t y → ∀ (u v : Value) (A : Around), RelV x u → RelV y v → A.units + n < cLine → SeqAt.EqAt A s u v true := by
  induction hx with
  | int i =>
    intro y hy u v A ru rv hu
    cases hy
    obtain ⟨a, rfl⟩ := ru
    obtain ⟨b, rfl⟩ := rv
    have := SeqAt.EqAt.int_int (A := A) (s := s) i a i b
    rw [beq_self_eq_true] at this
    exact this
  | bl b =>
    intro y hy u v A ru rv hu
    cases hy
    cases ru
    cases rv
    exact SeqAt.EqAt.same _
  | str x =>
    intro y hy u v A ru rv hu
    cases hy
    obtain ⟨a, rfl⟩ := ru
    obtain ⟨b, rfl⟩ := rv
    have := SeqAt.EqAt.str_str (A := A) (s := s) x a x b
    rw [beq_self_eq_true] at this
    exact this
  | non =>
    intro y hy u v A ru rv hu
    cases hy
    cases ru
    cases rv
    exact SeqAt.EqAt.same _
  | @lst n p xs ts h l e ih =>
    intro y hy u v A ru rv hu
    cases hy with
    | @lst _ q ys _ h2 l2 e2 =>
      cases ru
      cases rv
      by_cases hpq : p = q
      · subst hpq
        exact SeqAt.EqAt.same _
      · obtain ⟨us, r1, p1, _⟩ := I.list h
        obtain ⟨vs, r2, p2, _⟩ := I.list h2
        have z := SeqAt.RcAt.lists (A := A) p1.isList p2.isList (by rw [List.size_toArray, List.size_toArray, ← r1.length, ← r2.length, l, l2]) (by (first|lia|omega)) (e := fun _ => true) (items_eq l l2 r1 r2 ih e2 hu)
        rw [all_true] at z
        exact SeqAt.EqAt.of_refs hpq z
  | @tup n p xs ts h l e ih =>
    intro y hy u v A ru rv hu
    cases hy with
    | @tup _ q ys _ h2 l2 e2 =>
      cases ru
      cases rv
      by_cases hpq : p = q
      · subst hpq
        exact SeqAt.EqAt.same _
      · obtain ⟨us, r1, p1, _⟩ := I.tuple h
        obtain ⟨vs, r2, p2, _⟩ := I.tuple h2
        have z := SeqAt.RcAt.tuples (A := A) p1 p2 (by (first|lia|omega)) (e := fun _ => true) (items_eq l l2 r1 r2 ih e2 hu)
        rw [all_true, List.size_toArray, List.size_toArray, ← r1.length, ← r2.length, l, l2, beq_self_eq_true, Bool.and_self] at z
        exact SeqAt.EqAt.of_refs hpq z
def rEqD (K : PySem.W.Frag) : R2 := fun x y H Q => ∃ n ts, n ≤ 60 ∧ (Shows K H (n + 1) (.lst ts) x ∧ Shows K H (n + 1) (.lst ts) y ∨ Shows K H (n + 1) (.tup ts) x ∧ Shows K H (n + 1) (.tup ts) y) ∧ Q (.bl true) H
def rNeD (K : PySem.W.Frag) : R2 := fun x y H Q => ∃ n ts, n ≤ 60 ∧ (Shows K H (n + 1) (.lst ts) x ∧ Shows K H (n + 1) (.lst ts) y ∨ Shows K H (n + 1) (.tup ts) x ∧ Shows K H (n + 1) (.tup ts) y) ∧ Q (.bl false) H
theorem op_neD (hu : X.A.units + 64 < cLine) : OpR X (compareOp .NotEq) (rNeD X.K) := by
  intro pins s σ H x y v u Q I rx ry h
  obtain ⟨n, ts, hn, h, q⟩ := h
  have hu' : X.A.units + (n + 1) < cLine := by (first|lia|omega)
  rcases h with ⟨h1, h2⟩ | ⟨h1, h2⟩
  · cases h1 with
    | @lst _ p xs _ a1 a2 a3 =>
      cases h2 with
      | @lst _ p' ys _ b1 b2 b3 =>
        cases rx
        cases ry
        obtain ⟨us, r1, p1, _⟩ := I.list a1
        obtain ⟨vs, r2, p2, _⟩ := I.list b1
        have z := SeqAt.RcNeAt.lists (A := X.A) p1.isList p2.isList (by rw [List.size_toArray, List.size_toArray, ← r1.length, ← r2.length, a2, b2]) (by (first|lia|omega)) (e := fun _ => true) (items_eq a2 b2 r1 r2 (fun i x t e1 e2 => deep_eq I (a3 i x t e1 e2)) b3 hu')
        rw [all_true] at z
        exact z X.prog X.w X.xe _ ⟨.bl false, H, I, rfl, q⟩
  · cases h1 with
    | @tup _ p xs _ a1 a2 a3 =>
      cases h2 with
      | @tup _ p' ys _ b1 b2 b3 =>
        cases rx
        cases ry
        obtain ⟨us, r1, p1, _⟩ := I.tuple a1
        obtain ⟨vs, r2, p2, _⟩ := I.tuple b1
        have z := SeqAt.RcNeAt.tuples (A := X.A) p1 p2 (by (first|lia|omega)) (e := fun _ => true) (items_eq a2 b2 r1 r2 (fun i x t e1 e2 => deep_eq I (a3 i x t e1 e2)) b3 hu')
        rw [all_true, List.size_toArray, List.size_toArray, ← r1.length, ← r2.length, a2, b2, beq_self_eq_true, Bool.and_self] at z
        exact z X.prog X.w X.xe _ ⟨.bl false, H, I, rfl, q⟩
end
end L2
namespace L2
open PySem PySem.Spec PyProof.Rows
def gLst (K : PySem.W.Frag) (n : Nat) (t : TGs) : TG := fun v σ H Q => ∃ a xs, v = .ref a ∧ SqL K H a xs ∧ xs.length = n ∧ t xs σ H Q
end L2
namespace L2
open PySem PySem.Spec PyProof.Rows
def rEqE (K : PySem.W.Frag) : R2 := fun x y H Q => ∃ a b xs, x = .ref a ∧ y = .ref b ∧ SqL K H a xs ∧ SqL K H b [] ∧ Q (.bl xs.isEmpty) H
section
variable {X : Cx}
end
def CompIt (J : It) (g : TG) (tt : TT) (te : TE) (D : Addr) (Q : VK) (σ : St) (H : Hp) : Prop := ∃ W : Nat → Nat → St → Hp → Prop, (∃ m, W 0 m σ H) ∧ ∀ i m σc Hc, W i m σc Hc →
  (J.stop i Hc ∧ Q (.ref D) Hc) ∨ (J.go i Hc ∧ ∃ N : St → Hp → Prop, (∀ σ' H', N σ' H' → ∃ m', m' < m ∧ W (i + 1) m' σ' H') ∧ ∀ x H', J.yld i Hc x H' → g x σc H' fun σ2 H2 => tt σ2 H2 fun b H3 => if b = true then te σ2 H3 fun y H4 => rAppend (.ref D) [y] H4 fun _ H5 => N σ2 H5 else N σ2 H3)
theorem tComp_eq {wi : TI} {g : TG} {tt : TT} {te : TE} {cap : List (Option Nat)} {σ : St} {H : Hp} {Q : VK} : tComp wi g tt te cap σ H Q = wi σ H fun J H1 => ∀ D, H1 D = none → CompIt J g tt te D Q (capS cap σ) (upd H1 D (.lst [])) := rfl
theorem comp_listF {K : PySem.W.Frag} {a : Addr} {xs : List V} {g : TG} {tt : TT} {te : TE} {σ : St} {H : Hp} {D : Addr} {Q : VK} (Pv : Nat → List V → St → Hp → Prop) (h0 : Pv 0 [] σ (upd H D (.lst []))) (hl : ∀ i ys σ H, i ≤ xs.length → Pv i ys σ H → SqL K H a xs)
    (hs : ∀ i x ys σ H, xs[i]? = some x → H D = some (.lst ys) → Pv i ys σ H → g x σ H fun σ2 H2 => tt σ2 H2 fun b H3 => if b = true then te σ2 H3 fun y H4 => rAppend (.ref D) [y] H4 fun _ H5 => ∃ ys, H5 D = some (.lst ys) ∧ Pv (i + 1) ys σ2 H5 else ∃ ys, H3 D = some (.lst ys) ∧ Pv (i + 1) ys σ2 H3)
    (hd : ∀ ys σ H, H D = some (.lst ys) → Pv xs.length ys σ H → Q (.ref D) H) : CompIt (Itl K a) g tt te D Q σ (upd H D (.lst [])) := comp_list Pv h0 hl hs hd
theorem comp_rangeF {lo : Int} {n : Nat} {g : TG} {tt : TT} {te : TE} {σ : St} {H : Hp} {D : Addr} {Q : VK} (Pv : Nat → List V → St → Hp → Prop) (h0 : Pv 0 [] σ (upd H D (.lst [])))
    (hs : ∀ i ys σ H, i < n → H D = some (.lst ys) → Pv i ys σ H → g (.int (lo + i)) σ H fun σ2 H2 => tt σ2 H2 fun b H3 => if b = true then te σ2 H3 fun y H4 => rAppend (.ref D) [y] H4 fun _ H5 => ∃ ys, H5 D = some (.lst ys) ∧ Pv (i + 1) ys σ2 H5 else ∃ ys, H3 D = some (.lst ys) ∧ Pv (i + 1) ys σ2 H3)
    (hd : ∀ ys σ H, H D = some (.lst ys) → Pv n ys σ H → Q (.ref D) H) : CompIt (Itr lo n) g tt te D Q σ (upd H D (.lst [])) := comp_range Pv h0 hs hd
theorem comp_zipF {K : PySem.W.Frag} {p q : Addr} {xs zs : List V} {g : TG} {tt : TT} {te : TE} {σ : St} {H : Hp} {D : Addr} {Q : VK} (Pv : Nat → List V → St → Hp → Prop) (h0 : Pv 0 [] σ (upd H D (.lst [])))
    (hl : ∀ i ys σ H, i ≤ min xs.length zs.length → Pv i ys σ H → SqL K H p xs ∧ SqL K H q zs)
    (hs : ∀ i x z t ys σ H, xs[i]? = some x → zs[i]? = some z → H D = some (.lst ys) → Pv i ys σ H → H t = none → g (.ref t) σ (upd H t (.tup [x, z])) fun σ2 H2 => tt σ2 H2 fun b H3 => if b = true then te σ2 H3 fun y H4 => rAppend (.ref D) [y] H4 fun _ H5 => ∃ ys, H5 D = some (.lst ys) ∧ Pv (i + 1) ys σ2 H5 else ∃ ys, H3 D = some (.lst ys) ∧ Pv (i + 1) ys σ2 H3)
    (hd : ∀ ys σ H, H D = some (.lst ys) → Pv (min xs.length zs.length) ys σ H → Q (.ref D) H) : CompIt (Itz K p q) g tt te D Q σ (upd H D (.lst [])) := comp_zip Pv h0 hl hs hd
end L2
namespace L2
open PySem PySem.Spec PyProof.Rows
section
variable {X : Cx}
def rInsert : V → List V → Hp → VK → Prop := fun x vs H Q => ∃ l xs k y, x = .ref l ∧ vs = [.int k, y] ∧ H l = some (.lst xs) ∧ 0 ≤ k ∧ k ≤ (xs.length : Int) ∧ xs.length < 1000000 ∧ Q .non (upd H l (.lst (xs.take k.toNat ++ y :: xs.drop k.toNat)))
def rMaxL (K : PySem.W.Frag) : List V → Hp → VK → Prop := fun xs H Q => ∃ (p : Addr) (ns : List Int), xs = [.ref p] ∧ SqL K H p (ns.map V.int) ∧ 0 < ns.length ∧ ∀ m, m ∈ ns → (∀ a ∈ ns, a ≤ m) → Q (.int m) H
def rMinL (K : PySem.W.Frag) : List V → Hp → VK → Prop := fun xs H Q => ∃ (p : Addr) (ns : List Int), xs = [.ref p] ∧ SqL K H p (ns.map V.int) ∧ 0 < ns.length ∧ ∀ m, m ∈ ns → (∀ a ∈ ns, m ≤ a) → Q (.int m) H
theorem getD_in {ns : List Int} {i : Nat} (h : i < ns.length) : ns.getD i 0 ∈ ns := by
  rw [getD_at h]
  exact List.getElem_mem h
theorem in_getD {ns : List Int} {a : Int} (h : a ∈ ns) : ∃ i, i < ns.length ∧ a = ns.getD i 0 := by
  obtain ⟨i, hi, e⟩ := List.getElem_of_mem h
  exact ⟨i, hi, by rw [getD_at hi, e]⟩
theorem call_maxL (hc : X.calm = true) : CallR X (.builtin "max") (rMaxL X.K) := by
  intro pins s σ H xs us Q I r h
  obtain ⟨p, ns, rfl, hl, hn, q⟩ := h
  obtain ⟨u, rfl, ru⟩ := r.one
  cases ru
  obtain ⟨its, rv, pl, _⟩ := I.list hl
  have l := rv.length
  rw [List.length_map] at l
  obtain ⟨o, n, e, _⟩ := id pl
  have hlt := Heap.lt_size e
  have hne : p ≠ s.heap.objs.size := Nat.ne_of_lt hlt
  refine call_max_walk (wpAny_pyIter_list pl.isList ?_)
  refine ⟨s.heap.objs.size, _, _, _, _, _, _, rfl, Walks.list (A := X.A.in1) (I.ok.hd hc) _ p hne its.toArray, ⟨⟨_, Heap.get?_push_size _ rfl, rfl, rfl⟩, ?_⟩, fun b hb => ?_, by rw [List.size_toArray]; (first|lia|omega), CmpOf.ints_gt (fun i => ns.getD i 0) (fun i v hv => val_int rv hv), fun v h' tk hv hk => ?_⟩
  · exact pl.isList.at fun o e => Heap.get?_push_of_some _ e
  · rw [Heap.size_push]
    rcases List.mem_cons.mp hb with z | z
    · rw [z]; exact Nat.lt_succ_self _
    · have z' : b = p := by simpa using z
      rw [z']; exact Nat.lt_succ_of_lt hlt
  · obtain ⟨t, rfl⟩ := val_int rv hv
    obtain ⟨b1, b2⟩ := argBest_gt (fun i => ns.getD i 0) (its.toArray.size - 1)
    rw [List.size_toArray] at b1 b2
    refine ⟨.int _, H, I.kept fun b u eb => hk b u (fun z => Nat.ne_of_lt (Heap.lt_size eb) (by simpa using z)) (Heap.get?_push_of_some _ eb), ⟨t, rfl⟩, q _ (getD_in (by rw [List.size_toArray]; (first|lia|omega))) fun a ha => ?_⟩
    obtain ⟨j, hj, rfl⟩ := in_getD ha
    exact b2 j (by (first|lia|omega))
theorem call_minL (hc : X.calm = true) : CallR X (.builtin "min") (rMinL X.K) := by
  intro pins s σ H xs us Q I r h
  obtain ⟨p, ns, rfl, hl, hn, q⟩ := h
  obtain ⟨u, rfl, ru⟩ := r.one
  cases ru
  obtain ⟨its, rv, pl, _⟩ := I.list hl
  have l := rv.length
  rw [List.length_map] at l
  obtain ⟨o, n, e, _⟩ := id pl
  have hlt := Heap.lt_size e
  have hne : p ≠ s.heap.objs.size := Nat.ne_of_lt hlt
  refine call_min_walk (wpAny_pyIter_list pl.isList ?_)
  refine ⟨s.heap.objs.size, _, _, _, _, _, _, rfl, Walks.list (A := X.A.in1) (I.ok.hd hc) _ p hne its.toArray, ⟨⟨_, Heap.get?_push_size _ rfl, rfl, rfl⟩, ?_⟩, fun b hb => ?_, by rw [List.size_toArray]; (first|lia|omega), CmpOf.ints_lt (fun i => ns.getD i 0) (fun i v hv => val_int rv hv), fun v h' tk hv hk => ?_⟩
  · exact pl.isList.at fun o e => Heap.get?_push_of_some _ e
  · rw [Heap.size_push]
    rcases List.mem_cons.mp hb with z | z
    · rw [z]; exact Nat.lt_succ_self _
    · have z' : b = p := by simpa using z
      rw [z']; exact Nat.lt_succ_of_lt hlt
  · obtain ⟨t, rfl⟩ := val_int rv hv
    obtain ⟨b1, b2⟩ := argBest_lt (fun i => ns.getD i 0) (its.toArray.size - 1)
    rw [List.size_toArray] at b1 b2
    refine ⟨.int _, H, I.kept fun b u eb => hk b u (fun z => Nat.ne_of_lt (Heap.lt_size eb) (by simpa using z)) (Heap.get?_push_of_some _ eb), ⟨t, rfl⟩, q _ (getD_in (by rw [List.size_toArray]; (first|lia|omega))) fun a ha => ?_⟩
    obtain ⟨j, hj, rfl⟩ := in_getD ha
    exact b2 j (by (first|lia|omega))
end
end L2
namespace L2
open PySem PySem.Spec PyProof.Rows
def clsVs : List V → Option (List Value)
  | [] => some []
  | v :: vs => (clsV v).bind fun c => (clsVs vs).map fun cs => c :: cs
theorem clsVs_rel : ∀ {vs : List V} {us cs : List Value}, Vals vs us → clsVs vs = some cs → us = cs
  | [], _, cs, .nil, h => by cases h; rfl
  | v :: vs, _, cs, .cons r t, h => by
    unfold clsVs at h
    obtain ⟨c, h1, h2⟩ := Option.bind_eq_some_iff.mp h
    obtain ⟨ds, h3, rfl⟩ := Option.map_eq_some_iff.mp h2
    rw [clsV_rel r h1, clsVs_rel t h3]
def rIsiT (K : PySem.W.Frag) : List V → Hp → VK → Prop := fun xs H Q => ∃ (a tp : Addr) (cs : List V) (c : Value) (cvs : List Value) (b : Bool), xs = [.ref a, .ref tp] ∧ H a = some (excO a c) ∧ ExcCls K c ∧ SqT K H tp cs ∧ clsVs cs = some cvs ∧ PySem.W.kitAny K c cvs = some b ∧ Q (.bl b) H
section
variable {X : Cx}
theorem call_isiT : CallR X (.builtin "isinstance") (rIsiT X.K) := by
  intro pins s σ H xs us Q I r h
  obtain ⟨a, tp, cs, c, cvs, b, rfl, ha, k, ht, hc, e, q⟩ := h
  obtain ⟨u, w', rfl, rx, rw'⟩ := vals2 r
  cases rx
  cases rw'
  obtain ⟨p, _, _⟩ := (show ObjOk X.prog X.w H s.heap a (excO a c) from I.hok a _ ha)
  obtain ⟨ws, rv, ⟨⟨cls, dd, data, sl⟩, e1, e2, n, e3⟩, _⟩ := I.tuple ht
  obtain rfl := clsVs_rel rv hc
  simp only at e2 e3
  subst e2 e3
  exact PySem.W.kia_tup (k.kit a) I.kIn p e1 e (fun z => nomatch z) fun tk => ⟨.bl b, H, I.tok tk, rfl, q⟩
end
end L2
namespace L2
open PySem PySem.Spec PyProof.Rows
theorem bootEnum : bootBuiltins "enumerate" = some (.type "enumerate") := by decide +kernel
def Ite (K : PySem.W.Frag) (p : Addr) : It where
  go := fun i H => ∃ xs a, SqL K H p xs ∧ xs[i]? = some a
  yld := fun i H x H' => ∃ t a, x = .ref t ∧ H t = none ∧ H' = upd H t (.tup [.int (i : Int), a]) ∧ ∀ xs, SqL K H p xs → xs[i]? = some a
  stop := fun i H => ∃ xs, SqL K H p xs ∧ i = xs.length
def tnE (e it p : Addr) (i : Nat) (h : Heap) : Prop := (∃ old, IsEnum h e it i old) ∧ h.IsListIter it p i
theorem tnE_there {e it p : Addr} {i : Nat} {h : Heap} (st : tnE e it p i h) : ∀ b ∈ [e, it], ∃ o, h.get? b = some o ∧ ∀ v, o.data ≠ .cell v := fun b hb => by
  obtain ⟨⟨old, a1⟩, ⟨o2, a2, _, d2⟩⟩ := st
  simp only [List.mem_cons,List.not_mem_nil,or_false] at hb
  rcases hb with rfl | rfl
  · exact ⟨_, a1, fields_nocell rfl⟩
  · exact ⟨_, a2, fields_nocell d2⟩
theorem turn_enum {P : Program} {w : World} {K : PySem.W.Frag} {elts : List Expr} {k : Nat} {pos : Pos} {e it p : Addr} (d1 : e ≠ it) (d2 : p ≠ e) (d3 : p ≠ it) : Turn P w K (.Tuple elts k pos) (Ite K p) [e, it] e (tnE e it p) where
  mem := by simp
  obj := fun i h st => tnE_there st
  keep := fun i h h' st kk => by
    obtain ⟨⟨old, a1⟩, a2⟩ := st
    exact ⟨⟨old, kk e (by simp) _ a1⟩, a2.at fun o x => kk it (by simp) o x⟩
  item := by
    intro X hP hw hK hc i pins s σ H E I hf st hg
    subst hP hw hK
    obtain ⟨xs, a, hx, ea⟩ := hg
    obtain ⟨its, r1, pl1, z1⟩ := I.list hx
    obtain ⟨ua, eua, rua⟩ := r1.get ea
    have there := tnE_there st
    obtain ⟨s1, s2⟩ := st
    have W := WalksT.enumerate (prog := X.prog) (w := X.w) (A := X.A) (I.ok.hd hc) e it p d1 d2 d3 its.toArray
    have hi : i < its.toArray.size := by
      have h1 := (List.getElem?_eq_some_iff.mp eua).1
      rw [List.size_toArray]
      exact h1
    refine W.item i s _ _ hi ⟨s1, s2, pl1.isList⟩ fun T vals h' tk hp hT hTup mid kk => ⟨_, rfl, ?_⟩
    obtain ⟨t, u, e1, rfl⟩ := hp
    have e1' : u = ua := by
      have : its[i]? = some u := by simpa using e1
      rw [eua] at this; cases this; rfl
    subst e1'
    refine W.go elts k pos i T { s with heap := h', toks := tk } _ _ mid fun h2 st2 kk2 => ?_
    obtain ⟨t1, t2, _⟩ := st2
    have I1 : Inv X pins σ H { s with heap := h2, toks := tk } := I.turns (ch := [e, it]) (fun b o hb q => kk2 b o hb (kk b o hb q)) fun b hb => hf b hb
    have nT : H T = none := I.hok.fresh hT
    have I2 := I1.track (a := T) (o := .tup [.int (i : Int), a]) nT (Heap.get?_none_of_le (Nat.le_trans I.sz hT)) (Nat.ne_of_gt (Nat.lt_of_lt_of_le I.lt hT)) (fun x c q => by
      obtain ⟨v, z⟩ := I.cell x c q
      exact Nat.ne_of_lt (Nat.lt_of_lt_of_le z.lt hT)) (fun y hy => Nat.ne_of_lt (Nat.lt_of_lt_of_le (Heap.lt_size (I.pin y hy).1) hT)) (by
      refine ⟨by show 2 ≤ sizeLine; decide, [.int i t, u], .cons ⟨t, rfl⟩ (.cons rua .nil), ?_⟩
      obtain ⟨o, ho, hcl, hd⟩ := hTup
      exact ⟨o, kk2 T o (W.apart i T h' mid) ho, hcl, hd⟩)
    refine ⟨.ref T, _, I2, rfl, ⟨T, a, rfl, nT, rfl, fun xs' h' => ?_⟩, ⟨t1, t2⟩, fun b hb => ?_⟩
    · rw [I.list_inj h' hx]; exact ea
    · obtain ⟨o, q, _⟩ := there b hb
      rw [upd_ne (Nat.ne_of_lt (Nat.lt_of_lt_of_le (Heap.lt_size q) hT))]
      exact (hf b hb).1
  done := by
    intro X hP hw hK hc i pins s σ H E I hf st hg
    subst hP hw hK
    obtain ⟨xs, hx, rfl⟩ := hg
    obtain ⟨its, r1, pl1, z1⟩ := I.list hx
    obtain ⟨s1, s2⟩ := st
    have W := WalksT.enumerate (prog := X.prog) (w := X.w) (A := X.A) (I.ok.hd hc) e it p d1 d2 d3 its.toArray
    refine W.done s _ _ ?_ fun h' tk kk => ⟨rfl, I.turns (ch := [e, it]) (fun b o hb q => kk b o hb q) fun b hb => hf b hb⟩
    rw [List.size_toArray, ← r1.length]
    exact ⟨s1, s2, pl1.isList⟩
  self := fun A i s Q E st h => by
    obtain ⟨⟨old, a1⟩, _⟩ := st
    exact wpAny_pyIter_enum a1 h
def iEnum (K : PySem.W.Frag) (ta : TA) : TI := fun σ H R => ta σ H fun vs H1 => ∃ p, vs = [.ref p] ∧ (∃ xs, SqL K H1 p xs) ∧ R (Ite K p) H1
theorem pi_enum {X : Cx} {a : Expr} {elts : List Expr} {k : Nat} {tp p pos : Pos} {ta : TA} (hg : Gl X "enumerate") (hm : X.mg "enumerate" = none) (ha : PA X [a] ta) (hs : starEach [a] X.env = [(false, eval a X.env)] := by rfl) :
    PI X (.Tuple elts k tp) (.Call (.Name "enumerate" p) [a] [] pos) (iEnum X.K ta) := by
  intro pins s σ H R I h
  refine Call_ (ld_blt I hg hm bootEnum (PyProof.Rows.callWith_type1 (thn (ha pos pins s σ H _ I h) fun us s1 ⟨vs, H1, I1, r1, q1⟩ => ?_) (by rw [hs]; rfl) rfl))
  obtain ⟨p1, rfl, ⟨xs, hx⟩, q⟩ := q1
  obtain ⟨u, rfl, ru⟩ := r1.one
  cases ru
  obtain ⟨its, _, pl1, _⟩ := I1.list hx
  have a1 : p1 < s1.heap.objs.size := by obtain ⟨_, e, _⟩ := pl1.isList; exact Heap.lt_size e
  refine call_enumerate_list pl1.isList fun h' he hi hsz hk => ?_
  refine wpAny_pyIter_enum he ?_
  refine ⟨_, _, _, _, H1, rfl, I1.kept (t' := s1.toks) hk, turn_enum (Nat.succ_ne_self _) (Nat.ne_of_lt (Nat.lt_succ_of_lt a1)) (Nat.ne_of_lt a1), ⟨⟨_, he⟩, hi⟩, fun b hb => ?_, q⟩
  have hb' : s1.heap.objs.size ≤ b := by
    simp only [List.mem_cons,List.not_mem_nil,or_false] at hb
    rcases hb with h | h <;> rw [h] <;> first | exact Nat.le_refl _ | exact Nat.le_add_right _ _
  exact I1.fpOk hb' (I1.hok.fresh hb')
theorem comp_enumF {K : PySem.W.Frag} {p : Addr} {xs : List V} {g : TG} {tt : TT} {te : TE} {σ : St} {H : Hp} {D : Addr} {Q : VK} (Pv : Nat → List V → St → Hp → Prop) (h0 : Pv 0 [] σ (upd H D (.lst [])))
    (hl : ∀ i ys σ H, i ≤ xs.length → Pv i ys σ H → SqL K H p xs)
    (hs : ∀ i x t ys σ H, xs[i]? = some x → H D = some (.lst ys) → Pv i ys σ H → H t = none → g (.ref t) σ (upd H t (.tup [.int (i : Int), x])) fun σ2 H2 => tt σ2 H2 fun b H3 => if b = true then te σ2 H3 fun y H4 => rAppend (.ref D) [y] H4 fun _ H5 => ∃ ys, H5 D = some (.lst ys) ∧ Pv (i + 1) ys σ2 H5 else ∃ ys, H3 D = some (.lst ys) ∧ Pv (i + 1) ys σ2 H3)
    (hd : ∀ ys σ H, H D = some (.lst ys) → Pv xs.length ys σ H → Q (.ref D) H) : CompIt (Ite K p) g tt te D Q σ (upd H D (.lst [])) := by
  refine ⟨fun i m σ H => m = xs.length - i ∧ i ≤ xs.length ∧ ∃ ys, H D = some (.lst ys) ∧ Pv i ys σ H, ⟨_, rfl, Nat.zero_le _, [], upd_same, h0⟩, ?_⟩
  rintro i m σ H ⟨rfl, hi, ys, hD, pv⟩
  have hx := hl i ys σ H hi pv
  by_cases hlt : i < xs.length
  · refine .inr ⟨⟨xs, xs[i], hx, by simp [hlt]⟩, fun σ H => ∃ ys, H D = some (.lst ys) ∧ Pv (i + 1) ys σ H, fun σ' H' p' => ⟨_, by (first|lia|omega), rfl, hlt, p'⟩, fun x H' yl => ?_⟩
    obtain ⟨t, a, rfl, ht, rfl, e1⟩ := yl
    exact hs i a t ys σ H (e1 xs hx) hD pv ht
  · have e : i = xs.length := by (first|lia|omega)
    subst e
    exact .inl ⟨⟨xs, hx, rfl⟩, hd ys σ H hD pv⟩
end L2
namespace L2
open PySem PySem.Spec PyProof.Rows
theorem kit_bool_int (K : PySem.W.Frag) : PySem.W.kitOne K (.type "bool") (.type "int") = some true := by first | rfl | kernel_rfl
theorem isi_ty {K : PySem.W.Frag} {H : Hp} {Q : VK} {x : V} {t c : String} {b : Bool} (h : TyOf K H x (.type t)) (e : PySem.W.kitOne K (.type t) (.type c) = some b) (q : Q (.bl b) H) : rIsi K [x, .ty c] H Q := ⟨_, _, _, _, b, rfl, rfl, .of h, e, q⟩
end L2
namespace L2
open PySem PySem.Spec PyProof.Rows
def relabelS (scope sc : Scope) : Scope :=
  { scope with names := scope.names.map fun (n, k) => if (k == .free && sc.kind == .function && sc.names.lookup n == some .cell) then (n, .cell) else (n, k) }
theorem blk_sc {X : Cx} {Nc : List Str} {scope : Scope} {cl : List (Str × Addr)} {s : Shared} {H : Hp} {fp : List Addr} : (X.blk Nc scope cl s H fp).env.scope = relabelS scope X.env.scope := rfl
theorem cells_app : ∀ (names : List (Str × NameKind)) (n : Addr) (a cl : List (Str × Addr)), cellsFrom n names (a ++ cl) = cellsFrom n names a ++ cl
  | [], n, a, cl => by unfold cellsFrom; rfl
  | (x, k) :: r, n, a, cl => by
    unfold cellsFrom
    split
    · exact cells_app r (n + 1) ((x, n) :: a) cl
    · exact cells_app r n a cl
theorem cells_mem : ∀ (names : List (Str × NameKind)) (n : Addr) (a : List (Str × Addr)) (x : Str) (c : Addr), (x, c) ∈ cellsFrom n names a → (x, c) ∈ a ∨ (x, NameKind.cell) ∈ names
  | [], n, a, x, c, h => by unfold cellsFrom at h; exact .inl h
  | (y, k) :: r, n, a, x, c, h => by
    unfold cellsFrom at h
    split at h
    · rename_i hk
      rcases cells_mem r (n + 1) ((y, n) :: a) x c h with q | q
      · rcases List.mem_cons.mp q with e | q
        · cases e
          refine .inr ?_
          have : k = NameKind.cell := by simpa using hk
          rw [this]
          exact List.mem_cons_self
        · exact .inl q
      · exact .inr (List.mem_cons_of_mem _ q)
    · rcases cells_mem r n a x c h with q | q
      · exact .inl q
      · exact .inr (List.mem_cons_of_mem _ q)
theorem newEnv_block {M : Model} {A : Around} {E : Value → Shared → Prop} {s : Shared} {scope : Scope} {globals : Addr} {cl : List (Str × Addr)} {qual : Str} {outer : Env} {Q : Env → Shared → Prop}
    (hQ : Q (newEnv scope s.heap.objs.size globals (cellsFrom (s.heap.objs.size + 1) scope.names [] ++ cl) qual none .none (some outer) builtinsNs) { s with heap := pushCells (s.heap.push { cls := .type "dict", data := .dict #[] }) scope.names }) :
    wpAny M A (newFunctionEnv scope globals cl [] qual none .none (some outer)) Q E s := by
  simp only [newFunctionEnv,Option.isSome_some,if_true]
  refine wpAny_bind (wpAny_alloc ?_)
  refine wpAny_bind (wpAny_layCells _ (fun name kind cells => by cases hkc : kind == NameKind.cell <;> simp [hkc]) _ _ _ _ ?_)
  rw [show ({ s with heap := s.heap.push { cls := .type "dict", data := .dict #[] } } : Shared).heap.objs.size = s.heap.objs.size + 1 from Heap.size_push ..]
  have e := cells_app scope.names (s.heap.objs.size + 1) [] cl
  rw [List.nil_append] at e
  rw [e]
  refine wpAny_bind ?_
  rw [List.forIn_nil]
  exact wpAny_pure (wpAny_pure hQ)
def Cx.blkC (X : Cx) (Nc : List Str) (scope : Scope) (cl : List (Str × Addr)) (s : Shared) (H : Hp) (fp : List Addr) : Cx := { X with
  N := Nc, s₀ := s, H₀ := H, env := compEnvC scope (cellsFrom (s.heap.objs.size + 1) scope.names [] ++ cl) s.heap.objs.size X.env, outer := X.stack, stack := X.stack, ex := fp, fn := fun x => scope.names.lookup x == some .cell, pn := [], xe := fun _ _ => False }
theorem blkC_sc {X : Cx} {Nc : List Str} {scope : Scope} {cl : List (Str × Addr)} {s : Shared} {H : Hp} {fp : List Addr} : (X.blkC Nc scope cl s H fp).env.scope = relabelS scope X.env.scope := rfl
structure BlkOkC (sc : Scope) (N Nc : List Str) (cap : List (Option Nat)) (scope : Scope) : Prop where
  kind : scope.kind = .function
  free : ∀ y ∈ scope.names, y.2 = .free → sc.names.lookup y.1 = some .cell ∨ sc.names.lookup y.1 = some .free
  once : ∀ y ∈ scope.names, scope.names.lookup y.1 = some y.2
  nd : Nc.Nodup
  len : cap.length = Nc.length
  cap : ∀ (i : Nat) (y : Str) (j : Nat), Nc[i]? = some y → cap[i]? = some (some j) → N[j]? = some y ∧ scope.names.lookup y = some .free
def blkChkC (sc : Scope) (N Nc : List Str) (cap : List (Option Nat)) (scope : Scope) : Bool :=
  scope.kind == .function && scope.names.all (fun y => scope.names.lookup y.1 == some y.2 && (y.2 != .free || sc.names.lookup y.1 == some .cell || sc.names.lookup y.1 == some .free)) && decide Nc.Nodup && cap.length == Nc.length
    && (Nc.zip cap).all fun p => p.2.all fun j => N[j]? == some p.1 && scope.names.lookup p.1 == some .free
theorem BlkOkC.of {sc : Scope} {N Nc : List Str} {cap : List (Option Nat)} {scope : Scope} (h : blkChkC sc N Nc cap scope = true) : BlkOkC sc N Nc cap scope := by
  unfold blkChkC at h
  simp only [Bool.and_eq_true,beq_iff_eq,List.all_eq_true,bne_iff_ne,ne_eq,Bool.or_eq_true,decide_eq_true_eq] at h
  obtain ⟨⟨⟨⟨h1, h2⟩, h3⟩, h4⟩, h5⟩ := h
  refine ⟨h1, fun y hy hf => ?_, fun y hy => (h2 y hy).1, h3, h4, fun i y j e1 e2 => ?_⟩
  · rcases (h2 y hy).2 with (q | q) | q
    · exact absurd hf q
    · exact .inl q
    · exact .inr q
  · have m : (y, some j) ∈ Nc.zip cap := by
      refine List.mem_of_getElem? (i := i) ?_
      rw [List.getElem?_zip_eq_some]
      exact ⟨e1, e2⟩
    have z := h5 _ m
    simpa using z
section
variable {X : Cx} {pins : List (Addr × Obj)} {σ : St} {H : Hp} {s : Shared}
structure BCells (scope : Scope) (cl : List (Str × Addr)) (L : Addr) (h1 : Heap) : Prop where
  look : ∀ x c, (cellsFrom (L + 1) scope.names [] ++ cl).lookup x = some c → (L < c ∧ h1.IsCell c none ∧ scope.names.lookup x = some .cell ∧ (cellsFrom (L + 1) scope.names []).lookup x = some c) ∨ (cl.lookup x = some c ∧ (cellsFrom (L + 1) scope.names []).lookup x = none)
  new : ∀ x, scope.names.lookup x = some .cell → ∃ c, (cellsFrom (L + 1) scope.names [] ++ cl).lookup x = some c
  old : ∀ x c, scope.names.lookup x = some .free → cl.lookup x = some c → (cellsFrom (L + 1) scope.names [] ++ cl).lookup x = some c
  inj : ∀ x y c, (cellsFrom (L + 1) scope.names []).lookup x = some c → (cellsFrom (L + 1) scope.names []).lookup y = some c → x = y
theorem cells_ok {scope : Scope} {cl : List (Str × Addr)} {h : Heap} (once : ∀ y ∈ scope.names, scope.names.lookup y.1 = some y.2) : BCells scope cl h.objs.size (pushCells (h.push { cls := .type "dict", data := .dict #[] }) scope.names) := by
  have ok := cellsFrom_ok scope.names (h.push { cls := .type "dict", data := .dict #[] }) (h.objs.size + 1) [] ⟨fun _ _ hm => (nomatch hm), List.Pairwise.nil⟩ (by rw [Heap.size_push]; exact Nat.le_refl _)
  rw [Heap.size_push] at ok
  have kinds : ∀ x c, (cellsFrom (h.objs.size + 1) scope.names []).lookup x = some c → scope.names.lookup x = some .cell := fun x c e => by
    rcases cells_mem _ _ _ _ _ (PySem.mem_of_lookup e) with q | q
    · cases q
    · exact once _ q
  refine ⟨fun x c e => ?_, fun x e => ?_, fun x c e1 e2 => ?_, fun x y c e1 e2 => name_of_addr ok.apart (PySem.mem_of_lookup e1) (PySem.mem_of_lookup e2)⟩
  · rw [List.lookup_append] at e
    cases q : (cellsFrom (h.objs.size + 1) scope.names []).lookup x with
    | none => rw [q] at e; exact .inr ⟨e, rfl⟩
    | some d =>
      rw [q] at e
      cases e
      obtain ⟨o1, o2⟩ := ok.empty x c (PySem.mem_of_lookup q)
      exact .inl ⟨o2, o1, kinds x c q, rfl⟩
  · obtain ⟨c, q⟩ := cell_has (n := h.objs.size + 1) e
    exact ⟨c, by rw [List.lookup_append, q]; rfl⟩
  · rw [List.lookup_append]
    cases q : (cellsFrom (h.objs.size + 1) scope.names []).lookup x with
    | none => exact e2
    | some d =>
      have := kinds x d q
      rw [e1] at this
      cases this
theorem blk_invC {Nc : List Str} {cap : List (Option Nat)} {scope : Scope} {cl : List (Str × Addr)} {fp : List Addr} {h1 : Heap} {tk : Nat} {m1 : Str → Option Value} (I : Inv X pins σ H s) (B : BlkOkC X.env.scope X.N Nc cap scope)
    (hsub : ∀ x c, cl.lookup x = some c → X.env.cells.lookup x = some c) (hfr : ∀ y ∈ scope.names, y.2 = .free → ∃ c, cl.lookup y.1 = some c) (hf : ∀ b ∈ fp, FpOk X pins H b) (hin : ∀ b ∈ fp, b < s.heap.objs.size)
    (hk : ∀ b o, s.heap.get? b = some o → h1.get? b = some o) (hn : h1.Ns s.heap.objs.size m1) (C : BCells scope cl s.heap.objs.size h1) : Inv (X.blkC Nc scope cl s H fp) [] (capS cap σ) H { s with heap := h1, toks := tk } := by
  have ok := I.ok
  have bsz : X.base.objs.size ≤ s.heap.objs.size := Nat.le_trans ok.bsz I.sz
  have oldlt : ∀ x c, cl.lookup x = some c → c < s.heap.objs.size := fun x c e => by
    obtain ⟨v, q⟩ := I.cell x c (hsub x c e)
    exact q.lt
  refine ⟨⟨ok.mod, B.kind, ok.glob, ok.blt, Nat.le_refl _, fun x y c h1 h2 => ?_, fun x hx => ?_, fun x c z e => ?_, ok.hd, ok.frames, .inl rfl, fun b hb => ⟨Nat.ne_of_lt (hin b hb), fun x c e => ?_⟩,
    I.bs, bsz, fun b o e hb => ?_, fun b hb z => ?_, I.stack, I.stkFree⟩, rfl, I.bare, Un.kept hk, ⟨m1, hn, fun i y v e1 e2 e3 => ?_⟩, fun x c e => ?_, I.hok.fresh (Nat.le_refl _), fun x c e => ?_, (by intro p hp; cases hp), I.hok.kept hk, ?_⟩
  · rcases C.look x c h1 with ⟨a1, _, _, a4⟩ | ⟨a, _⟩ <;> rcases C.look y c h2 with ⟨b1, _, _, b4⟩ | ⟨b, _⟩
    · exact C.inj x y c a4 b4
    · exact absurd (Nat.lt_trans a1 (oldlt y c b)) (Nat.lt_irrefl _)
    · exact absurd (Nat.lt_trans b1 (oldlt x c a)) (Nat.lt_irrefl _)
    · exact ok.inj x y c (hsub x c a) (hsub y c b)
  · have fr : ∀ x, scope.names.lookup x = some .free → ∃ c, (cellsFrom (s.heap.objs.size + 1) scope.names [] ++ cl).lookup x = some c := fun x q => by
      obtain ⟨c, e⟩ := hfr (x, .free) (PySem.mem_of_lookup q) rfl
      exact ⟨c, C.old x c q e⟩
    have look : ∀ k, (relabel scope X.env).names.lookup x = some k → k = .cell ∨ k = .free → ∃ c, (cellsFrom (s.heap.objs.size + 1) scope.names [] ++ cl).lookup x = some c := fun k q hk => by
      rcases relabel_lookup q with ⟨n1, n2⟩ | ⟨_, n2 | n2⟩
      · rcases hk with r | r
        · exact absurd r n1
        · rw [r] at n2
          exact fr x n2
      · exact C.new x n2
      · exact fr x n2
    rcases hx with q | q
    · exact look _ q (.inl rfl)
    · exact look _ q (.inr rfl)
  · obtain ⟨c3, q3⟩ := cell_has (n := s.heap.objs.size + 1) (show scope.names.lookup x = some .cell from beq_iff_eq.mp z)
    rcases C.look x c e with ⟨a1, _⟩ | ⟨_, b⟩
    · exact Nat.le_of_lt a1
    · rw [q3] at b
      cases b
  · rcases C.look x c e with ⟨a1, _⟩ | ⟨a, _⟩
    · exact Nat.ne_of_gt (Nat.lt_trans (hin b hb) a1)
    · exact (hf b hb).2.2.2.2.1 x c (hsub x c a)
  · rcases (hf b hb).2.2.2.1 with q | q
    · exact ok.noex b o e q
    · exact absurd (Nat.lt_of_lt_of_le (Heap.lt_size e) (Nat.le_trans ok.bsz q)) (Nat.lt_irrefl _)
  · rcases List.mem_cons.mp (I.stkSub b z) with q | q
    · exact (hf b hb).2.1 q
    · exact (hf b hb).2.2.1 q
  · have e2' : (cap[i]?).map (fun o => o.bind fun j => (σ[j]?).join) = some (some v) := by rw [← List.getElem?_map]; exact e2
    obtain ⟨o, ho, eo⟩ := Option.map_eq_some_iff.mp e2'
    obtain ⟨j, rfl, ej⟩ := Option.bind_eq_some_iff.mp eo
    have ej' : σ[j]? = some (some v) := by
      cases q : σ[j]? with
      | none => rw [q] at ej; cases ej
      | some z => rw [q] at ej; cases ej; rfl
    obtain ⟨c1, c2⟩ := B.cap i y j e1 ho
    have vis := B.free (y, .free) (PySem.mem_of_lookup c2) rfl
    obtain ⟨m, _, hl⟩ := I.loc
    obtain ⟨u, r, lk⟩ := hl j y v c1 ej' (.inr vis)
    obtain ⟨c', ec⟩ := hfr (y, .free) (PySem.mem_of_lookup c2) rfl
    have ec2 := hsub _ _ ec
    rcases lk with ⟨kl, _⟩ | ⟨_, c, e, z⟩
    · have kl' : X.env.scope.names.lookup y = some .local := kl
      rcases vis with q | q
      · have q' : X.env.scope.names.lookup y = some .cell := q
        rw [kl'] at q'; cases q'
      · have q' : X.env.scope.names.lookup y = some .free := q
        rw [kl'] at q'; cases q'
    · have ecc : X.env.cells.lookup y = some c' := ec2
      rw [e] at ecc
      cases ecc
      refine ⟨u, r, .inr ⟨?_, _, C.old y _ c2 ec, ?_⟩⟩
      · rcases e3 with q | q | q
        · rcases relabel_lookup q with ⟨_, n2⟩ | ⟨n1, _⟩
          · rw [c2] at n2; cases n2
          · cases n1
        · exact .inl q
        · exact .inr q
      · obtain ⟨o, ho, hd⟩ := z
        exact ⟨o, hk _ _ ho, hd⟩
  · rcases C.look x c e with ⟨_, a2, _⟩ | ⟨a, _⟩
    · exact ⟨none, a2⟩
    · obtain ⟨v, o, ho, hd⟩ := I.cell x c (hsub x c a)
      exact ⟨v, o, hk _ _ ho, hd⟩
  · rcases C.look x c e with ⟨a1, _⟩ | ⟨a, _⟩
    · exact I.hok.fresh (Nat.le_of_lt a1)
    · exact I.freeC x c (hsub x c a)
  · show (capS cap σ).length = Nc.length
    rw [capS, List.length_map, B.len]
theorem blk_outC {Nc : List Str} {scope : Scope} {cl : List (Str × Addr)} {fp : List Addr} {σc : St} {Hc : Hp} {s' : Shared} {h' : Heap} (I : Inv X pins σ H s) (hf : ∀ b ∈ fp, FpOk X pins H b) (J : Inv (X.blkC Nc scope cl s H fp) [] σc Hc s')
    (hs : Heap.SameBut s.heap.objs.size s'.heap h') : Inv X pins σ Hc { s' with heap := h' } := by
  have ne : ∀ b o, s.heap.get? b = some o → b ≠ s.heap.objs.size := fun b o e => Nat.ne_of_lt (Heap.lt_size e)
  have u := J.base
  refine I.call' (ch := fp) J.os ⟨fun b o e n hb hx => (hs.2 b (ne b o e)).trans (u.keep b o e n hb hx), fun b o e n hb hx => ?_, u.free, fun b o e hx => ?_, u.tups, u.frzs, u.tbls⟩ (fun b ob e => ?_) J.bare fun b hb => ⟨(hf b hb).2.2.2.1, (hf b hb).2.1, (hf b hb).2.2.2.2.1, (hf b hb).2.2.2.2.2⟩
  · obtain ⟨sl, q⟩ := u.slot b o e n hb hx
    exact ⟨sl, (hs.2 b (ne b o e)).trans q⟩
  · obtain ⟨o', q⟩ := u.there b o e hx
    exact ⟨o', (hs.2 b (ne b o e)).trans q⟩
  · have hC : Hc s.heap.objs.size = none := J.free
    refine (J.hok b ob e).stay (fun c w' hc q => (hs.2 c ?_).trans q) (fun _ q => q) fun _ _ q => q
    rintro rfl
    rcases hc with z | hc
    · rw [← z, hC] at e; cases e
    · rw [hC] at hc; cases hc
end
theorem comp_coreC {X : Cx} {pins : List (Addr × Obj)} {s : Shared} {σ : St} {H : Hp} {Q : VK} {sc : Scope} {N Nc : List Str} {cap : List (Option Nat)} {elt tg iter : Expr} {ifs : List Expr} {scope : Scope} {pos pos' : Pos} {wi : TI} {g : TG} {tt : TT} {te : TE} {use : Option (Value → Sem Unit)} {QQ : Value → Shared → Prop}
    (hc : X.calm = true) (hsc : X.env.scope = sc) (hN : X.N = N) (B : BlkOkC sc N Nc cap scope) (hi : PI X tg iter wi)
    (hg : ∀ cl s H fp, PG (X.blkC Nc scope cl s H fp) tg g) (ht : ∀ cl s H fp, PTs (X.blkC Nc scope cl s H fp) ifs tt) (he : ∀ cl s H fp, PE (X.blkC Nc scope cl s H fp) elt te)
    (hs : ∀ x, foldedSetIterable iter X.env x = pure x) (I : Inv X pins σ H s) (h : tComp wi g tt te cap σ H Q)
    (fin : ∀ (s3 : Shared) (H3 : Hp) (cl : List (Str × Addr)) (fp : List Addr) (D : Addr) (σc : St) (Hc : Hp) (s6 : Shared), Inv X pins σ H3 s3 → (∀ b ∈ fp, FpOk X pins H3 b) → Inv (X.blkC Nc scope cl s3 H3 fp) [] σc Hc s6 → Q (.ref D) Hc → compPost (model X.prog X.w) X.A X.xe use QQ (.ref D) s3.heap.objs.size (.ok .next) s6) :
    wpAny (model X.prog X.w) X.A (comprehension (.ListComp elt [⟨tg, iter, ifs, 0⟩] scope pos) scope X.env pos' (newList []) false (eval iter X.env) use) QQ X.xe s := by
  subst hsc hN
  obtain ⟨cl, hclos, hsub, hfr⟩ := closure_ok (scope := scope) (env := X.env) fun y hy hf => I.ok.has y.1 (B.free y hy hf)
  refine wpAny_comprehension_free (use := use) rfl hs hclos B.kind (fun y hy hl => by rw [B.once y hy, hl]) (thn (hi pins s σ H _ I h) fun v s1 h1 => thn h1 fun itv s2 h2 => ?_)
  obtain ⟨it, fp, tn, J, H2, rfl, I2, T, st2, f2, hw⟩ := h2
  refine wpAny_newObj_type ?_
  have hfree : H2 s2.heap.objs.size = none := I2.hok.fresh (Nat.le_refl _)
  have I3 := I2.laid (t' := s2.toks) (o := .lst []) (fun b u e => Heap.get?_push_of_some { cls := .type "list", dict := none, data := .seq ([] : List Value).toArray } e) (Nat.le_refl _) ⟨by decide, [], 0, .nil, Heap.get?_push_size _ rfl⟩
  obtain ⟨W, ⟨m0, w0⟩, turn⟩ := hw _ hfree
  have keep23 : ∀ b o, s2.heap.get? b = some o → (s2.heap.push { cls := .type "list", dict := none, data := .seq ([] : List Value).toArray }).get? b = some o := fun b o e => Heap.get?_push_of_some _ e
  have hin : ∀ b ∈ fp, b < s2.heap.objs.size := fun b hb => let ⟨o, e, _⟩ := T.obj 0 _ st2 b hb; Heap.lt_size e
  have f3 : ∀ b ∈ fp, FpOk X pins (upd H2 s2.heap.objs.size (.lst [])) b := fun b hb => ⟨by rw [upd_ne (Nat.ne_of_lt (hin b hb))]; exact (f2 b hb).1, (f2 b hb).2⟩
  have st3 := T.keep 0 _ _ st2 fun b _ o e => keep23 b o e
  have hin3 : ∀ b ∈ fp, b < (s2.heap.push { cls := .type "list", dict := none, data := .seq ([] : List Value).toArray }).objs.size := fun b hb => let ⟨o, e, _⟩ := T.obj 0 _ st3 b hb; Heap.lt_size e
  clear keep23 hin
  generalize s2.heap.push { cls := .type "list", dict := none, data := .seq ([] : List Value).toArray } = h3 at I3 st3 hin3 ⊢
  generalize upd H2 s2.heap.objs.size (.lst []) = H3 at I3 f3 w0
  generalize s2.heap.objs.size = D at hfree w0 turn ⊢
  refine newEnv_block ?_
  have Cc := cells_ok (scope := scope) (cl := cl) (h := h3) B.once
  have keep : ∀ b o, h3.get? b = some o → (pushCells (h3.push { cls := .type "dict", data := .dict #[] }) scope.names).get? b = some o := fun b o e => pushCells_keeps _ _ b o (Heap.get?_push_of_some _ e)
  have hns : (pushCells (h3.push { cls := .type "dict", data := .dict #[] }) scope.names).Ns h3.objs.size fun _ => none := (Heap.Ns.new h3 (.type "dict")).keeps (pushCells_keeps _ _)
  dsimp only
  generalize pushCells (h3.push { cls := .type "dict", data := .dict #[] }) scope.names = h1 at Cc keep hns ⊢
  have I4 := blk_invC (tk := s2.toks) I3 B hsub hfr f3 hin3 keep hns Cc
  have st4 := T.keep 0 _ _ st3 fun b _ o e => keep b o e
  have stat : ∀ {H' : Hp}, (∀ b ∈ fp, H' b = none) → ∀ b ∈ fp, FpOk (X.blkC Nc scope cl { s2 with heap := h3, toks := s2.toks } H3 fp) [] H' b := fun hn b hb =>
    ⟨hn b hb, Nat.ne_of_lt (hin3 b hb), fun z => by
      rcases List.mem_cons.mp (I3.stkSub b z) with q | q
      · exact (f3 b hb).2.1 q
      · exact (f3 b hb).2.2.1 q, .inl hb, fun x c e => by
      rcases Cc.look x c e with ⟨a1, _⟩ | ⟨a, _⟩
      · exact Nat.ne_of_gt (Nat.lt_trans (hin3 b hb) a1)
      · exact (f3 b hb).2.2.2.2.1 x c (hsub x c a), by intro p hp; cases hp⟩
  have hcb : (X.blkC Nc scope cl { s2 with heap := h3, toks := s2.toks } H3 fp).calm = true := hc
  have loop : codeAny (model X.prog X.w) X.A (.compLoop (.ListComp elt [⟨tg, iter, ifs, 0⟩] scope pos) 0 (.ref it) (.ref D) (compEnvC scope (cellsFrom (h3.objs.size + 1) scope.names [] ++ cl) h3.objs.size X.env)) (compPost (model X.prog X.w) X.A X.xe use QQ (.ref D) h3.objs.size) { s2 with heap := h1, toks := s2.toks } := by
    refine compLoop_any (fun n s' => ∃ i σ' H', Inv (X.blkC Nc scope cl { s2 with heap := h3, toks := s2.toks } H3 fp) [] σ' H' s' ∧ tn i s'.heap ∧ (∀ b ∈ fp, H' b = none) ∧ W i n σ' H') rfl ?_ m0 ⟨0, _, H3, I4, st4, fun b hb => (f3 b hb).1, w0⟩
    rintro n s5 ⟨i, σ5, H5, I5, st5, fr5, w5⟩
    rcases turn i n σ5 H5 w5 with ⟨stop, qn⟩ | ⟨go, N', hN', step⟩
    · refine thn (T.done (X.blkC Nc scope cl { s2 with heap := h3, toks := s2.toks } H3 fp) rfl rfl rfl hcb i [] s5 σ5 H5 _ I5 (stat fr5) st5 stop) fun r s6 ⟨hr, I6⟩ => ?_
      subst hr
      exact fin { s2 with heap := h3, toks := s2.toks } H3 cl fp D σ5 H5 s6 I3 f3 I6 qn
    · refine thn (T.item (X.blkC Nc scope cl { s2 with heap := h3, toks := s2.toks } H3 fp) rfl rfl rfl hcb i [] s5 σ5 H5 _ I5 (stat fr5) st5 go) fun r s6 ⟨u, hr, h6⟩ => ?_
      subst hr
      refine thn h6 fun _ s7 ⟨x, H7, I7, r7, y7, st7, fr7⟩ => ?_
      have I7' := I7.pinned (stat fr7) (T.obj _ _ st7)
      refine wpAny_mono (hg cl _ H3 fp _ s7 σ5 H7 x u _ I7' r7 (step x H7 y7)) (fun _ s8 ⟨σ8, H8, I8, q8⟩ => ?_) fun _ _ z => z.elim
      have again : ∀ {H9 : Hp} {s9 : Shared} {m : Nat}, Inv (X.blkC Nc scope cl { s2 with heap := h3, toks := s2.toks } H3 fp) ([] ++ pinsAt fp s7.heap) σ8 H9 s9 → m < n → W (i + 1) m σ8 H9 → ∃ m, m < n ∧ ∃ i σ' H', Inv (X.blkC Nc scope cl { s2 with heap := h3, toks := s2.toks } H3 fp) [] σ' H' s9 ∧ tn i s9.heap ∧ (∀ b ∈ fp, H' b = none) ∧ W i m σ' H' := fun {H9 s9 m} I9 hm w9 => by
        refine ⟨m, hm, i + 1, σ8, H9, I9.unpinned, T.keep _ _ _ st7 fun b hb o e => (I9.pin (b, o) (List.mem_append_right _ (List.mem_append_right _ (mem_pinsAt hb e)))).1, fun b hb => ?_, w9⟩
        obtain ⟨o, e, d⟩ := T.obj _ _ st7 b hb
        exact (I9.pin (b, o) (List.mem_append_right _ (List.mem_append_right _ (mem_pinsAt hb e)))).2.1
      refine wpAny_mono (ht cl _ H3 fp _ s8 σ8 H8 _ I8 q8) (fun b s9 ⟨H9, I9, q9⟩ => ?_) fun _ _ z => z.elim
      cases b with
      | false =>
        rw [if_neg (by decide)] at q9
        obtain ⟨m', hm, w9⟩ := hN' _ _ q9
        exact again I9 hm w9
      | true =>
        rw [if_pos rfl] at q9
        refine wpAny_mono (he cl _ H3 fp _ s9 σ8 H9 _ I9 q9) (fun u s10 ⟨y, H10, I10, r10, q10⟩ => ?_) fun _ _ z => z.elim
        refine wpAny_mono (mt_append (X := X.blkC Nc scope cl { s2 with heap := h3, toks := s2.toks } H3 fp) _ s10 σ8 H10 (.ref D) [y] (.ref D) [u] _ I10 rfl (.cons r10 .nil) q10) (fun _ s11 ⟨_, H11, I11, _, q11⟩ => ?_) fun _ _ z => z.elim
        obtain ⟨m', hm, w11⟩ := hN' _ _ q11
        exact again I11 hm w11
  exact codeAny_compStart_list loop (T.self _ 0 _ _ _ st4 loop)
theorem pe_compC {X : Cx} {sc : Scope} {N Nc : List Str} {cap : List (Option Nat)} {elt tg iter : Expr} {ifs : List Expr} {scope : Scope} {pos : Pos} {wi : TI} {g : TG} {tt : TT} {te : TE} (hc : X.calm = true) (hsc : X.env.scope = sc) (hN : X.N = N) (B : BlkOkC sc N Nc cap scope) (hi : PI X tg iter wi)
    (hg : ∀ cl s H fp, PG (X.blkC Nc scope cl s H fp) tg g) (ht : ∀ cl s H fp, PTs (X.blkC Nc scope cl s H fp) ifs tt) (he : ∀ cl s H fp, PE (X.blkC Nc scope cl s H fp) elt te)
    (hs : ∀ x, foldedSetIterable iter X.env x = pure x := by intro _; rfl) : PE X (.ListComp elt [⟨tg, iter, ifs, 0⟩] scope pos) (tComp wi g tt te cap) := by
  intro pins s σ H Q I h
  rw [eval_ListComp]
  refine comp_coreC hc hsc hN B hi hg ht he hs I h fun s3 H3 cl fp D σc Hc s6 I3 f3 I6 q => ?_
  obtain ⟨m, hn, _⟩ := id I6.loc
  exact ⟨m, hn, fun h' hs' => ⟨.ref D, Hc, blk_outC I3 f3 I6 hs', rfl, q⟩⟩
end L2
namespace L2
open PySem
theorem tVar_c0 {v : V} {σ : List (Option V)} {H : Hp} {Q : VK} : tVar 0 (some v :: σ) H Q = Q v H := by simp [tVar]
theorem tVar_c1 {x0 : Option V} {v : V} {σ : List (Option V)} {H : Hp} {Q : VK} : tVar 1 (x0 :: some v :: σ) H Q = Q v H := by simp [tVar]
theorem tVar_c2 {x0 x1 : Option V} {v : V} {σ : List (Option V)} {H : Hp} {Q : VK} : tVar 2 (x0 :: x1 :: some v :: σ) H Q = Q v H := by simp [tVar]
theorem tVar_c3 {x0 x1 x2 : Option V} {v : V} {σ : List (Option V)} {H : Hp} {Q : VK} : tVar 3 (x0 :: x1 :: x2 :: some v :: σ) H Q = Q v H := by simp [tVar]
theorem tVar_c4 {x0 x1 x2 x3 : Option V} {v : V} {σ : List (Option V)} {H : Hp} {Q : VK} : tVar 4 (x0 :: x1 :: x2 :: x3 :: some v :: σ) H Q = Q v H := by simp [tVar]
theorem tVar_c5 {x0 x1 x2 x3 x4 : Option V} {v : V} {σ : List (Option V)} {H : Hp} {Q : VK} : tVar 5 (x0 :: x1 :: x2 :: x3 :: x4 :: some v :: σ) H Q = Q v H := by simp [tVar]
theorem tVar_c6 {x0 x1 x2 x3 x4 x5 : Option V} {v : V} {σ : List (Option V)} {H : Hp} {Q : VK} : tVar 6 (x0 :: x1 :: x2 :: x3 :: x4 :: x5 :: some v :: σ) H Q = Q v H := by simp [tVar]
theorem tVar_c7 {x0 x1 x2 x3 x4 x5 x6 : Option V} {v : V} {σ : List (Option V)} {H : Hp} {Q : VK} : tVar 7 (x0 :: x1 :: x2 :: x3 :: x4 :: x5 :: x6 :: some v :: σ) H Q = Q v H := by simp [tVar]
theorem tVar_c8 {x0 x1 x2 x3 x4 x5 x6 x7 : Option V} {v : V} {σ : List (Option V)} {H : Hp} {Q : VK} : tVar 8 (x0 :: x1 :: x2 :: x3 :: x4 :: x5 :: x6 :: x7 :: some v :: σ) H Q = Q v H := by simp [tVar]
theorem tVar_c10 {x0 x1 x2 x3 x4 x5 x6 x7 x8 x9 : Option V} {v : V} {σ : List (Option V)} {H : Hp} {Q : VK} : tVar 10 (x0 :: x1 :: x2 :: x3 :: x4 :: x5 :: x6 :: x7 :: x8 :: x9 :: some v :: σ) H Q = Q v H := by simp [tVar]
theorem rI_c {C : Int → Int → Prop} {g : Int → Int → V} {a b : Int} {H : Hp} {Q : VK} : rI C g (.int a) (.int b) H Q = (C a b ∧ Q (g a b) H) := by simp [rI]
theorem rI0_c {g : Int → Int → V} {a b : Int} {H : Hp} {Q : VK} : rI0 g (.int a) (.int b) H Q = Q (g a b) H := by simp [rI0]
theorem rIxL_c {K : PySem.W.Frag} {p : Addr} {i : Int} {H : Hp} {Q : VK} : rIxL K (.ref p) (.int i) H Q = ∃ xs, SqL K H p xs ∧ ∃ v, atI xs i = some v ∧ Q v H := by simp [rIxL]
theorem ex_bl {c : Bool} {Q : Bool → Prop} : (∃ k, V.bl c = V.bl k ∧ Q k) = Q c := by simp
theorem ex_int {c : Int} {Q : Int → Prop} : (∃ k, V.int c = V.int k ∧ Q k) = Q c := by simp
theorem ex_ref {c : Addr} {Q : Addr → Prop} : (∃ k, V.ref c = V.ref k ∧ Q k) = Q c := by simp
theorem ex_l1i {c : Int} {Q : Int → Prop} : (∃ k, [V.int c] = [V.int k] ∧ Q k) = Q c := by simp
theorem ex_l1r {c : Addr} {Q : Addr → Prop} : (∃ k, [V.ref c] = [V.ref k] ∧ Q k) = Q c := by simp
end L2
namespace Att
open PySem PySem.W PySem.Calls PyProof.Rows
theorem cell_weight {x : Int} : ∀ {ns : List Int}, x ∈ ns → WData.weight (.int x) ≤ WData.weightAll (ns.map WData.int)
  | [], h => absurd h (List.not_mem_nil)
  | y :: ns, h => by
    rw [List.map_cons, WData.weightAll]
    rcases List.mem_cons.mp h with e | e
    · rw [← e]
      (first|lia|omega)
    · have := cell_weight e
      (first|lia|omega)
theorem bits_of {ns : List Int} (h : WData.layableAll [WData.list (ns.map WData.int)] = true) : ∀ x ∈ ns, x.natAbs < 2 ^ 2 ^ 20 := by
  intro x hx
  have h1 : (WData.list (ns.map WData.int)).layable = true := (layW_cons h).1
  have h2 : WData.weight (.list (ns.map WData.int)) ≤ 2 ^ 20 := by
    unfold WData.layable at h1
    rw [Bool.and_eq_true] at h1
    exact of_decide_eq_true h1.2
  rw [WData.weight] at h2
  have h3 := Nat.le_trans (cell_weight hx) h2
  rw [WData.weight] at h3
  by_cases h0 : x = 0
  · subst h0
    exact Nat.two_pow_pos _
  · rw [if_neg (by simpa using h0)] at h3
    have hn : x.natAbs ≠ 0 := fun e => h0 (Int.natAbs_eq_zero.mp e)
    exact (Nat.log2_lt hn).mp h3
theorem attach_callL {l : OpenLaw} {n : Nat} {q : Program} {loose : List Str} {XP : (Str → Option Value) → Heap → Prop} {YP : World → Heap → Prop} {d : DefRec}
    (hn : l.most = some n) (hdf : d.params.defaults = [])
    (call : ∀ (w : World) (s₀ s₁ : Shared) (mg mb : Str → Option Value) (fa : Addr) (o : Obj) (pm cd doc : Value) (a : Addr) (vs : List Value) (ns : List Int), (∀ x ∈ ns, x.natAbs < 2 ^ 2 ^ 20) →
      Ground q loose [] XP w s₀ mg mb s₁.heap → YP w s₁.heap →
      s₁.heap.get? fa = some o → o.data = .func (docDef d.name d.params d.body d.scope pm cd doc) → s₁.heap.CodeRec cd d.name → mg d.name = some (.ref fa) →
      s₁.heap.get? a = some { cls := .type "list", data := .seq vs.toArray } → IntsAre vs ns → ns.length ≤ n → s₁.gens = #[] →
      codeAny (model l.prog w) callerA (.call (.ref fa) ⟨[.ref a], []⟩) (fun r s' => r = .ok (.ret (.bool true)) ∧ OldK s₁.heap s'.heap ∧ s'.os = s₁.os ∧ AllBare s'.gens) s₁) :
    WalkO q loose XP YP l.row.toRowW d [] (fun f vs => PySem.call f vs) := by
  intro w s₀ s₁ mg mb G Y fa o pm cd doc dV kV ho hd hcd hD hmg hg args vals as hpre hlay hrd hwl hlo
  obtain rfl : dV = .none := Dflts.none hD hdf
  obtain rfl : kV = .none := Dflts.noKw hD
  obtain ⟨a, vs, ns, rfl, rfl, hobj, hints, hlen⟩ := script_of hn hpre hwl
  refine enter_call (codeAny_mono (call w s₀ s₁ mg mb fa o pm cd doc a vs ns (bits_of hlay) G Y ho (fd_plain hd) hcd hmg hobj hints hlen hg) fun r s' hq => ?_)
  obtain ⟨rfl, h2, h3, h4⟩ := hq
  exact ⟨.inl ⟨.bool true, .bool true, [], rfl, fun _ => rfl, .bool true, post_true l _, fun _ => ⟨List.Pairwise.nil, fun _ hm => (nomatch hm)⟩⟩, h2, h3, h4⟩
end Att
namespace L2
open PySem PySem.Spec PyProof.Rows
theorem walk_ofL {l : PySem.W.OpenLaw} {n k : Nat} {q : Program} {loose : List Str} {XP : (Str → Option Value) → Heap → Prop} {YP : World → Heap → Prop} {d : DefRec} {K : Params → PySem.W.Frag} {CX : World → CXT} {sp : World → Sp} {x : Str}
    (hn : l.most = some n) (hn2 : n ≤ sizeLine) (hdf : d.params.defaults = []) (hr : Room k callerA)
    (hY : ∀ (w : World) (h : Heap), YP w h → (K w.params).In h)
    (F : ∀ (w : World) (mg : Str → Option Value) (fa : Addr) (h : Heap), (K w.params).In h → h.Ns mainGlobals mg → mg d.name = some (.ref fa) →
      ∃ fd : FuncData, (∀ (s : Shared) (u : Value), BindsTo s fd ⟨[u], []⟩ [(x, u)]) ∧
        ∀ base : Heap, (K w.params).In base → base.Ns mainGlobals mg → FnOk l.prog w (K w.params) mg base (CX w) k fa fd [x] (sp w))
    (hsp : ∀ (w : World) (H : Hp) (a : Addr) (ns : List Int), (∀ x ∈ ns, x.natAbs < 2 ^ 2 ^ 20) → ns.length ≤ n → Only H → SqL (K w.params) H a (ns.map V.int) → sp w [.ref a] H (fun v _ => v = .bl true) fun _ _ _ => False)
    (hCX : ∀ (w : World) (H : Hp) (s : Shared) (e : Value) (s' : Shared), CX w [] H s (fun _ _ _ => False) e s' → False) :
    PySem.W.WalkO q loose XP YP l.row.toRowW d [] (fun f vs => PySem.call f vs) := by
  refine Att.attach_callL hn hdf fun w s₀ s₁ mg mb fa o pm cd doc a vs ns hb0 G Y ho hd hcd hmg hobj hints hlen hg => ?_
  have KX := hY w _ Y
  obtain ⟨fd, hb, hF⟩ := F w mg fa _ KX G.T.g hmg
  exact law_call KX G.T.g G.T.b G.T.builtins G.T.nolimit hg hobj hints (Nat.le_trans hlen hn2) hr hF hb (fun H hO hS => hsp w H a ns hb0 hlen hO hS) fun H e s' => hCX w H s₁ e s'
end L2
namespace L2
open PySem PySem.Spec PyProof.Rows
def rNeDN (K : PySem.W.Frag) : R2 := fun x y H Q => rNe x y H Q ∨ rNeD K x y H Q
section
variable {X : Cx}
theorem op_neDN (hu : X.A.units + 64 < cLine) : OpR X (compareOp .NotEq) (rNeDN X.K) := by
  intro pins s σ H x y v u Q I rx ry h
  rcases h with h | h
  · exact op_ne pins s σ H x y v u Q I rx ry h
  · exact op_neD hu pins s σ H x y v u Q I rx ry h
end
end L2
set_option maxHeartbeats 4000000
namespace My
local macro_rules | `(tactic| omega) => `(tactic| lia)
open PySem L2
def top (i : Nat) : Stmt := PySem.Challenge.pw_hideworth_k14_best_rows_and_columns.main.body.getD i (.Pass ⟨0, 0, 0, 0⟩)
abbrev s_is_whole : Stmt := top 7
abbrev s_are_weights : Stmt := top 8
abbrev s_is_row : Stmt := top 11
abbrev s_is_table : Stmt := top 12
abbrev s_look_table : Stmt := top 13
abbrev s_row_sums : Stmt := top 14
abbrev s_column_sums : Stmt := top 15
abbrev s_best_rows : Stmt := top 16
abbrev s_best_columns : Stmt := top 17
abbrev s__law_mix : Stmt := top 19
abbrev s__law_cell_at : Stmt := top 20
abbrev s__law_left : Stmt := top 21
abbrev s__law_draw : Stmt := top 22
abbrev s__law_table : Stmt := top 23
abbrev s__law_copy : Stmt := top 24
abbrev s__law_whole : Stmt := top 25
abbrev s__law_weights : Stmt := top 26
abbrev s__law_some : Stmt := top 29
abbrev s__law_answer : Stmt := top 30
abbrev s__law_due : Stmt := top 31
abbrev s_law : Stmt := top 32
set_option genInjectivity false in
set_option genSizeOf false in
structure Ad where
  f_is_whole : Addr
  d_is_whole : FuncData
  f_are_weights : Addr
  d_are_weights : FuncData
  f_is_row : Addr
  d_is_row : FuncData
  f_is_table : Addr
  d_is_table : FuncData
  f_look_table : Addr
  d_look_table : FuncData
  f_row_sums : Addr
  d_row_sums : FuncData
  f_column_sums : Addr
  d_column_sums : FuncData
  f_best_rows : Addr
  d_best_rows : FuncData
  f_best_columns : Addr
  d_best_columns : FuncData
  f__law_mix : Addr
  d__law_mix : FuncData
  f__law_cell_at : Addr
  d__law_cell_at : FuncData
  f__law_left : Addr
  d__law_left : FuncData
  f__law_draw : Addr
  d__law_draw : FuncData
  f__law_table : Addr
  d__law_table : FuncData
  f__law_copy : Addr
  d__law_copy : FuncData
  f__law_whole : Addr
  d__law_whole : FuncData
  f__law_weights : Addr
  d__law_weights : FuncData
  f__law_some : Addr
  d__law_some : FuncData
  f__law_answer : Addr
  d__law_answer : FuncData
  f__law_due : Addr
  d__law_due : FuncData
  f_law : Addr
  d_law : FuncData
  c_HideError : Addr
  c_NoTable : Addr
  c_NoBoxes : Addr
  c_NoOrder : Addr
  c_NoWeights : Addr
  k_MOST : Tok
structure Isa (K : PySem.W.Frag) (a : Ad) : Prop where
  k_NoTable : PySem.W.kitOne K (.ref a.c_NoWeights) (.ref a.c_NoTable) = some false
  k_NoBoxes : PySem.W.kitOne K (.ref a.c_NoWeights) (.ref a.c_NoBoxes) = some false
  k_NoOrder : PySem.W.kitOne K (.ref a.c_NoWeights) (.ref a.c_NoOrder) = some false
  k_NoWeights : PySem.W.kitOne K (.ref a.c_NoWeights) (.ref a.c_NoWeights) = some true
  k_ValueError : PySem.W.kitOne K (.ref a.c_NoWeights) (.type "ValueError") = some true
  sub : PySem.W.subIn K (.ref a.c_NoWeights) (.ref a.c_HideError) = some true
  ec : ExcCls K (.ref a.c_NoWeights)
structure Txt (K : PySem.W.Frag) (mg : Str → Option Value) (a : Ad) : Prop where
  F_is_whole : Fun K "is_whole" "is_whole" s_is_whole a.f_is_whole a.d_is_whole
  b_is_whole : Binds K a.d_is_whole ["thing"] []
  m_is_whole : mg "is_whole" = some (.ref a.f_is_whole)
  F_are_weights : Fun K "are_weights" "are_weights" s_are_weights a.f_are_weights a.d_are_weights
  b_are_weights : Binds K a.d_are_weights ["thing", "many"] []
  m_are_weights : mg "are_weights" = some (.ref a.f_are_weights)
  F_is_row : Fun K "is_row" "is_row" s_is_row a.f_is_row a.d_is_row
  b_is_row : Binds K a.d_is_row ["thing"] []
  m_is_row : mg "is_row" = some (.ref a.f_is_row)
  F_is_table : Fun K "is_table" "is_table" s_is_table a.f_is_table a.d_is_table
  b_is_table : Binds K a.d_is_table ["thing"] []
  m_is_table : mg "is_table" = some (.ref a.f_is_table)
  F_look_table : Fun K "look_table" "look_table" s_look_table a.f_look_table a.d_look_table
  b_look_table : Binds K a.d_look_table ["table"] []
  m_look_table : mg "look_table" = some (.ref a.f_look_table)
  F_row_sums : Fun K "row_sums" "row_sums" s_row_sums a.f_row_sums a.d_row_sums
  b_row_sums : Binds K a.d_row_sums ["table", "columns"] []
  m_row_sums : mg "row_sums" = some (.ref a.f_row_sums)
  F_column_sums : Fun K "column_sums" "column_sums" s_column_sums a.f_column_sums a.d_column_sums
  b_column_sums : Binds K a.d_column_sums ["table", "rows"] []
  m_column_sums : mg "column_sums" = some (.ref a.f_column_sums)
  F_best_rows : Fun K "best_rows" "best_rows" s_best_rows a.f_best_rows a.d_best_rows
  b_best_rows : Binds K a.d_best_rows ["table", "columns"] []
  m_best_rows : mg "best_rows" = some (.ref a.f_best_rows)
  F_best_columns : Fun K "best_columns" "best_columns" s_best_columns a.f_best_columns a.d_best_columns
  b_best_columns : Binds K a.d_best_columns ["table", "rows"] []
  m_best_columns : mg "best_columns" = some (.ref a.f_best_columns)
  F__law_mix : Fun K "_law_mix" "_law_mix" s__law_mix a.f__law_mix a.d__law_mix
  b__law_mix : Binds K a.d__law_mix ["_law_number", "_law_k"] []
  m__law_mix : mg "_law_mix" = some (.ref a.f__law_mix)
  F__law_cell_at : Fun K "_law_cell_at" "_law_cell_at" s__law_cell_at a.f__law_cell_at a.d__law_cell_at
  b__law_cell_at : Binds K a.d__law_cell_at ["_law_script", "_law_k"] []
  m__law_cell_at : mg "_law_cell_at" = some (.ref a.f__law_cell_at)
  F__law_left : Fun K "_law_left" "_law_left" s__law_left a.f__law_left a.d__law_left
  b__law_left : Binds K a.d__law_left ["_law_script", "_law_k"] []
  m__law_left : mg "_law_left" = some (.ref a.f__law_left)
  F__law_draw : Fun K "_law_draw" "_law_draw" s__law_draw a.f__law_draw a.d__law_draw
  b__law_draw : Binds K a.d__law_draw ["_law_left_here", "_law_base"] []
  m__law_draw : mg "_law_draw" = some (.ref a.f__law_draw)
  F__law_table : Fun K "_law_table" "_law_table" s__law_table a.f__law_table a.d__law_table
  b__law_table : Binds K a.d__law_table ["_law_left_here"] []
  m__law_table : mg "_law_table" = some (.ref a.f__law_table)
  F__law_copy : Fun K "_law_copy" "_law_copy" s__law_copy a.f__law_copy a.d__law_copy
  b__law_copy : Binds K a.d__law_copy ["_law_table_here"] []
  m__law_copy : mg "_law_copy" = some (.ref a.f__law_copy)
  F__law_whole : Fun K "_law_whole" "_law_whole" s__law_whole a.f__law_whole a.d__law_whole
  b__law_whole : Binds K a.d__law_whole ["_law_thing"] []
  m__law_whole : mg "_law_whole" = some (.ref a.f__law_whole)
  F__law_weights : Fun K "_law_weights" "_law_weights" s__law_weights a.f__law_weights a.d__law_weights
  b__law_weights : Binds K a.d__law_weights ["_law_thing", "_law_many"] []
  m__law_weights : mg "_law_weights" = some (.ref a.f__law_weights)
  F__law_some : Fun K "_law_some" "_law_some" s__law_some a.f__law_some a.d__law_some
  b__law_some : Binds K a.d__law_some ["_law_left_here", "_law_many"] []
  m__law_some : mg "_law_some" = some (.ref a.f__law_some)
  F__law_answer : Fun K "_law_answer" "_law_answer" s__law_answer a.f__law_answer a.d__law_answer
  b__law_answer : Binds K a.d__law_answer ["_law_table_here", "_law_weights_here", "_law_which"] []
  m__law_answer : mg "_law_answer" = some (.ref a.f__law_answer)
  F__law_due : Fun K "_law_due" "_law_due" s__law_due a.f__law_due a.d__law_due
  b__law_due : Binds K a.d__law_due ["_law_table_here", "_law_weights_here", "_law_which"] []
  m__law_due : mg "_law_due" = some (.ref a.f__law_due)
  F_law : Fun K "law" "law" s_law a.f_law a.d_law
  b_law : Binds K a.d_law ["_law_script"] []
  m_law : mg "law" = some (.ref a.f_law)
  z_isinstance : mg "isinstance" = none
  z_int : mg "int" = none
  z_bool : mg "bool" = none
  z_list : mg "list" = none
  z_len : mg "len" = none
  z_all : mg "all" = none
  z_sum : mg "sum" = none
  z_min : mg "min" = none
  z_max : mg "max" = none
  z_enumerate : mg "enumerate" = none
  z_zip : mg "zip" = none
  z_range : mg "range" = none
  z_ValueError : mg "ValueError" = none
  m_HideError : mg "HideError" = some (.ref a.c_HideError)
  m_NoTable : mg "NoTable" = some (.ref a.c_NoTable)
  m_NoBoxes : mg "NoBoxes" = some (.ref a.c_NoBoxes)
  m_NoOrder : mg "NoOrder" = some (.ref a.c_NoOrder)
  m_NoWeights : mg "NoWeights" = some (.ref a.c_NoWeights)
  m_MOST : mg "MOST" = some (.int 12 a.k_MOST)
  x_HideError : PySem.W.excIn K a.c_HideError veMro "ValueError.__new__" = true
  x_NoWeights : PySem.W.excIn K a.c_NoWeights veMro "ValueError.__new__" = true
  I : Isa K a
theorem pow18 : CPow 10 18 := ⟨by decide, by decide, by decide⟩
abbrev Box := Int × Int × Int
abbrev bx (b : Box) : List V := [.int b.1, .int b.2.1, .int b.2.2]
def GB (b : Box) : Prop := 1 ≤ b.1 ∧ b.1 ≤ 60 ∧ 1 ≤ b.2.1 ∧ b.2.1 ≤ b.2.2 ∧ b.2.2 ≤ 50
theorem map_at {α β : Type} {f : α → β} {l : List α} {i : Nat} {y : β} (h : (l.map f)[i]? = some y) : ∃ x, l[i]? = some x ∧ y = f x := by
  rw [List.getElem?_map] at h
  obtain ⟨x, h1, h2⟩ := Option.map_eq_some_iff.mp h
  exact ⟨x, h1, h2.symm⟩
def Tps {α : Type} (f : α → List V) (H : Hp) (ts : List Addr) (bs : List α) : Prop := ts.length = bs.length ∧ ∀ (i : Nat) t b, ts[i]? = some t → bs[i]? = some b → H t = some (.tup (f b))
theorem Tps.same {α : Type} {f : α → List V} {H H' : Hp} {ts : List Addr} {bs : List α} (h : Tps f H ts bs) (s : Same H H') : Tps f H' ts bs := ⟨h.1, fun i t b e1 e2 => s _ _ (h.2 i t b e1 e2)⟩
theorem Tps.nil {α : Type} {f : α → List V} {H : Hp} : Tps f H [] ([] : List α) := ⟨rfl, fun i t b e => by simp at e⟩
theorem Tps.put {α : Type} {f : α → List V} {H H' : Hp} {ts : List Addr} {bs : List α} {t : Addr} {b : α} (h : Tps f H ts bs) (s : ∀ (x : Addr) (u : List V), H x = some (.tup u) → H' x = some (.tup u)) (e : H' t = some (.tup (f b))) : Tps f H' (ts ++ [t]) (bs ++ [b]) := by
  refine ⟨by rw [List.length_append, List.length_append, h.1]; rfl, fun i x y e1 e2 => ?_⟩
  by_cases c : i < ts.length
  · rw [List.getElem?_append_left c] at e1
    rw [List.getElem?_append_left (by rw [← h.1]; exact c)] at e2
    exact s _ _ (h.2 i x y e1 e2)
  · have c1 : ts.length ≤ i := by omega
    rw [List.getElem?_append_right c1] at e1
    rw [List.getElem?_append_right (by rw [← h.1]; exact c1), ← h.1] at e2
    have z : i - ts.length = 0 := by
      have := (List.getElem?_eq_some_iff.mp e1).1
      simp only [List.length_cons,List.length_nil] at this
      omega
    rw [z] at e1 e2
    simp only [List.getElem?_cons_zero,Option.some.injEq] at e1 e2
    rw [← e1, ← e2]
    exact e
theorem Tps.at {α : Type} {f : α → List V} {H : Hp} {ts : List Addr} {bs : List α} (h : Tps f H ts bs) {i : Nat} {t : Addr} (e : ts[i]? = some t) : ∃ b, bs[i]? = some b ∧ H t = some (.tup (f b)) := by
  have hi := (List.getElem?_eq_some_iff.mp e).1
  rw [h.1] at hi
  exact ⟨bs[i], List.getElem?_eq_getElem hi, h.2 i t _ e (List.getElem?_eq_getElem hi)⟩
theorem mem_at {α : Type} {l : List α} {i : Nat} {x : α} (e : l[i]? = some x) : x ∈ l := List.mem_of_getElem? e
structure BP (H : Hp) (l pl : Addr) (ts : List Addr) (bs : List Box) (ns : List Int) : Prop where
  hl : H l = some (.lst (ts.map V.ref))
  hb : Tps bx H ts bs
  hp : H pl = some (.lst (ns.map V.int))
  len : ns.length = bs.length
  gb : ∀ b ∈ bs, GB b
  gn : ∀ n ∈ ns, 0 ≤ n ∧ n ≤ 60
  l1 : 1 ≤ bs.length
  l6 : bs.length ≤ 6
theorem BP.same {H H' : Hp} {l pl : Addr} {ts : List Addr} {bs : List Box} {ns : List Int} (h : BP H l pl ts bs ns) (s : Same H H') : BP H' l pl ts bs ns :=
  ⟨s _ _ h.hl, h.hb.same s, s _ _ h.hp, h.len, h.gb, h.gn, h.l1, h.l6⟩
def chq (b : Box) (n : Int) : Rat := Rat.divInt (b.2.2 ^ n.toNat - (b.2.2 - b.2.1) ^ n.toNat) (b.2.2 ^ n.toNat)
def costs (bs : List Box) (ns : List Int) : List Int := List.zipWith (fun b n => b.1 * n) bs ns
def chqs (bs : List Box) (ns : List Int) : List Rat := List.zipWith chq bs ns
def Off (p c : Addr) (H : Hp) : Hp := fun b => if b = p ∨ b = c then none else H b
theorem off_le (p c : Addr) (H : Hp) : Same (Off p c H) H := fun b o h => by
  unfold Off at h
  split at h
  · cases h
  · exact h
theorem off_at {p c b : Addr} {H : Hp} (h1 : b ≠ p) (h2 : b ≠ c) : Off p c H b = H b := if_neg (fun z => z.elim h1 h2)
theorem off_ne {p c b : Addr} {H : Hp} {o : HO} (h : Off p c H b = some o) : b ≠ p ∧ b ≠ c := by
  unfold Off at h
  split at h
  · cases h
  · rename_i z
    exact ⟨fun e => z (.inl e), fun e => z (.inr e)⟩
theorem off_p {p c : Addr} {H : Hp} {o : HO} : Off p c (upd H p o) = Off p c H := by
  funext b
  unfold Off upd
  split
  · rfl
  · rename_i z
    rw [if_neg fun e => z (.inl e)]
theorem off_upd {p c b : Addr} {H : Hp} {o : HO} (h1 : b ≠ p) (h2 : b ≠ c) : Off p c (upd H b o) = upd (Off p c H) b o := by
  funext x
  unfold Off upd
  by_cases e : x = b
  · subst e
    rw [if_neg fun z => z.elim h1 h2, if_pos rfl, if_pos rfl]
  · rw [if_neg e, if_neg e]
structure Pur (H : Hp) (p c : Addr) (t : Int) : Prop where
  ne : p ≠ c
  hp : H p = some (.lst [.ref c, .int t])
  hc : ∃ ns : List Int, H c = some (.lst (ns.map V.int)) ∧ 0 < ns.length ∧ ns.length ≤ 63
  t0 : 0 ≤ t
theorem Pur.new {H : Hp} {p c : Addr} {t : Int} (h : Pur H p c t) {b : Addr} (hb : H b = none) : b ≠ p ∧ b ≠ c := by
  obtain ⟨ns, hc, _⟩ := h.hc
  exact ⟨(ne_of_none h.hp hb).symm, (ne_of_none hc hb).symm⟩
theorem Pur.upd {H : Hp} {p c : Addr} {t : Int} (h : Pur H p c t) {b : Addr} {o : HO} (h1 : b ≠ p) (h2 : b ≠ c) : Pur (L2.upd H b o) p c t := by
  obtain ⟨ns, hc, e⟩ := h.hc
  exact ⟨h.ne, by rw [upd_ne h1.symm]; exact h.hp, ⟨ns, by rw [upd_ne h2.symm]; exact hc, e⟩, h.t0⟩
theorem off_new {H : Hp} {p c b : Addr} (hb : H b = none) : Off p c H b = none := by
  unfold Off
  split
  · rfl
  · exact hb
theorem Pur.same {H H' : Hp} {p c : Addr} {t : Int} (h : Pur H p c t) (s : Same H H') : Pur H' p c t := by
  obtain ⟨ns, hc, e⟩ := h.hc
  exact ⟨h.ne, s _ _ h.hp, ⟨ns, s _ _ hc, e⟩, h.t0⟩
theorem off_same {H H' : Hp} (p c : Addr) (s : Same H H') : Same (Off p c H) (Off p c H') := fun b o h => by
  have n := off_ne h
  rw [off_at n.1 n.2] at h ⊢
  exact s _ _ h
theorem kit_bool_bool {K : PySem.W.Frag} : PySem.W.kitOne K (.type "bool") (.type "bool") = some true := rfl
theorem isi_lst_lst {K : PySem.W.Frag} {H : Hp} {Q : VK} {r : Addr} {xs : List V} (h : H r = some (.lst xs)) (q : Q (.bl true) H) : rIsi K [.ref r, .ty "list"] H Q := ⟨_, _, _, _, true, rfl, rfl, .of (.lst h), rfl, q⟩
def Wv (x : V) : Prop := (∃ n : Int, x = .int n ∧ -1 ≤ n ∧ n ≤ 10) ∨ x = .bl true
def okv : V → Bool
  | .int n => decide (0 ≤ n)
  | _ => false
def iv : V → Int
  | .int n => n
  | _ => 0
def gw (xs : List V) (m : Int) : Bool := decide ((xs.length : Int) = m) && (xs.all okv && decide (0 < (xs.map iv).sum))
theorem okv_ints {xs : List V} (h : xs.all okv = true) : xs = (xs.map iv).map V.int := by
  rw [List.map_map]
  refine (List.map_id xs).symm.trans (List.map_congr_left fun x hx => ?_)
  have := List.all_eq_true.mp h x hx
  cases x with
  | int n => rfl
  | _ => exact absurd this Bool.false_ne_true
theorem gw_parts {xs : List V} {m : Int} (h : gw xs m = true) : (xs.length : Int) = m ∧ xs = (xs.map iv).map V.int ∧ ∀ w ∈ xs.map iv, 0 ≤ w := by
  unfold gw at h
  rw [Bool.and_eq_true, Bool.and_eq_true] at h
  refine ⟨of_decide_eq_true h.1, okv_ints h.2.1, fun w hw => ?_⟩
  obtain ⟨x, hx, rfl⟩ := List.mem_map.mp hw
  have := List.all_eq_true.mp h.2.1 x hx
  cases x with
  | int n => exact of_decide_eq_true this
  | _ => exact absurd this Bool.false_ne_true
theorem wv_small {xs : List V} (h : ∀ x ∈ xs, Wv x) : ∀ w ∈ xs.map iv, -1 ≤ w ∧ w ≤ 10 := fun w hw => by
  obtain ⟨x, hx, rfl⟩ := List.mem_map.mp hw
  rcases h x hx with ⟨n, rfl, h1, h2⟩ | rfl
  · exact ⟨h1, h2⟩
  · exact ⟨by decide, by decide⟩
structure Tb (H : Hp) (t : Addr) (rs : List Addr) (rows : List (List Int)) (w : Nat) : Prop where
  ht : H t = some (.lst (rs.map V.ref))
  len : rs.length = rows.length
  hr : ∀ (i : Nat) r row, rs[i]? = some r → rows[i]? = some row → H r = some (.lst (row.map V.int))
  hw : ∀ row ∈ rows, row.length = w
  l1 : 1 ≤ rows.length
  l6 : rows.length ≤ 6
  w1 : 1 ≤ w
  w6 : w ≤ 6
theorem Tb.same {H H' : Hp} {t : Addr} {rs : List Addr} {rows : List (List Int)} {w : Nat} (h : Tb H t rs rows w) (s : Same H H') : Tb H' t rs rows w :=
  ⟨s _ _ h.ht, h.len, fun i r row e1 e2 => s _ _ (h.hr i r row e1 e2), h.hw, h.l1, h.l6, h.w1, h.w6⟩
theorem Tb.at {H : Hp} {t : Addr} {rs : List Addr} {rows : List (List Int)} {w : Nat} (h : Tb H t rs rows w) {i : Nat} {r : Addr} (e : rs[i]? = some r) : ∃ row, rows[i]? = some row ∧ H r = some (.lst (row.map V.int)) ∧ row.length = w := by
  have hi := (List.getElem?_eq_some_iff.mp e).1
  rw [h.len] at hi
  exact ⟨rows[i], List.getElem?_eq_getElem hi, h.hr i r _ e (List.getElem?_eq_getElem hi), h.hw _ (List.getElem_mem hi)⟩
theorem Tb.first {H : Hp} {t : Addr} {rs : List Addr} {rows : List (List Int)} {w : Nat} (h : Tb H t rs rows w) : ∃ (r : Addr) (row : List Int), atI (rs.map V.ref) 0 = some (.ref r) ∧ H r = some (.lst (row.map V.int)) ∧ row.length = w := by
  have l := h.l1
  rw [← h.len] at l
  have e : rs[0]? = some rs[0] := List.getElem?_eq_getElem l
  obtain ⟨row, _, h2, h3⟩ := h.at e
  exact ⟨_, row, atI_nat (j := 0) (by rw [List.getElem?_map, e]; rfl), h2, h3⟩
def dot (ws row : List Int) : Int := (List.zipWith (fun a b => a * b) ws row).sum
def rsums (ws : List Int) (rows : List (List Int)) : List Int := rows.map (dot ws)
def cdot (ws : List Int) (rows : List (List Int)) (j : Nat) : Int := (List.zipWith (fun a r => a * r.getD j 0) ws rows).sum
def csums (ws : List Int) (rows : List (List Int)) (w : Nat) : List Int := (List.range w).map (cdot ws rows)
def idx (ns : List Int) (m : Int) : List Int := ((List.range ns.length).filter fun i => decide (ns.getD i 0 = m)).map fun i : Nat => (i : Int)
def idxN (ns : List Int) (m : Int) (k : Nat) : List Int := ((List.range k).filter fun i => decide (ns.getD i 0 = m)).map fun i : Nat => (i : Int)
theorem idxN_succ {ns : List Int} {m : Int} {k : Nat} : idxN ns m (k + 1) = if ns.getD k 0 = m then idxN ns m k ++ [(k : Int)] else idxN ns m k := by
  unfold idxN
  rw [List.range_succ, List.filter_append, List.map_append]
  by_cases c : ns.getD k 0 = m
  · rw [if_pos c, List.filter_cons_of_pos (by simpa using c), List.filter_nil, List.map_cons, List.map_nil]
  · rw [if_neg c, List.filter_cons_of_neg (by simpa using c), List.filter_nil, List.map_nil, List.append_nil]
theorem idxN_len (ns : List Int) (m : Int) (k : Nat) : (idxN ns m k).length ≤ k := by
  unfold idxN
  rw [List.length_map]
  refine Nat.le_trans (List.length_filter_le _ _) ?_
  rw [List.length_range]
  exact Nat.le_refl _
structure Drw (H : Hp) (p : Addr) (c : Int) : Prop where
  hp : ∃ n f : Int, H p = some (.lst [.int n, .int f, .int c]) ∧ n.natAbs < 2 ^ 2 ^ 20 ∧ (f = 0 ∨ f = 1 ∧ 0 ≤ n)
  c0 : 0 ≤ c
theorem Drw.new {H : Hp} {p : Addr} {c : Int} (h : Drw H p c) {b : Addr} (hb : H b = none) : b ≠ p := by
  obtain ⟨n, f, hp, _⟩ := h.hp
  exact (ne_of_none hp hb).symm
theorem Drw.upd {H : Hp} {p : Addr} {c : Int} (h : Drw H p c) {b : Addr} {o : HO} (h1 : b ≠ p) : Drw (L2.upd H b o) p c := by
  obtain ⟨n, f, hp, e⟩ := h.hp
  exact ⟨⟨n, f, by rw [upd_ne h1.symm]; exact hp, e⟩, h.c0⟩
theorem Drw.same {H H' : Hp} {p : Addr} {c : Int} (h : Drw H p c) (s : Same H H') : Drw H' p c := by
  obtain ⟨n, f, hp, e⟩ := h.hp
  exact ⟨⟨n, f, s _ _ hp, e⟩, h.c0⟩
theorem off_out {H H1 H2 : Hp} {p : Addr} (hp : H p = none) (s1 : Same H H1) (s2 : Same (Off p p H1) (Off p p H2)) : Same H H2 := fun b o h => by
  have n : b ≠ p := ne_of_none h hp
  have := s2 b o (by rw [off_at n n]; exact s1 _ _ h)
  rwa [off_at n n] at this
def good (k : Int) (xs : List V) (rows : List (List Int)) (w : Nat) : Bool := if k = 0 then gw xs w else gw xs rows.length
def sms (k : Int) (xs : List V) (rows : List (List Int)) (w : Nat) : List Int := if k = 0 then rsums (xs.map iv) rows else csums (xs.map iv) rows w
def Best (k : Int) (ns : List Int) (m : Int) : Prop := m ∈ ns ∧ ∀ b ∈ ns, (k = 0 → m ≤ b) ∧ (k ≠ 0 → b ≤ m)
theorem Best.one {k : Int} {ns : List Int} {m m' : Int} (h : Best k ns m) (h' : Best k ns m') : m = m' := by
  have e1 := h.2 _ h'.1
  have e2 := h'.2 _ h.1
  by_cases c : k = 0
  · have := e1.1 c
    have := e2.1 c
    omega
  · have := e1.2 c
    have := e2.2 c
    omega
def spWholeX : Sp := fun vs H Q _ => ∃ x : V, vs = [x] ∧ ((∃ n : Int, x = .int n) ∧ Q (.bl true) H ∨ (∃ b : Bool, x = .bl b) ∧ Q (.bl false) H)
def spWeights (K : PySem.W.Frag) : Sp := fun vs H Q _ => ∃ (p : Addr) (xs : List V) (m : Int), vs = [.ref p, .int m] ∧ H p = some (.lst xs) ∧ (∀ x ∈ xs, Wv x) ∧ xs.length ≤ 7 ∧ ∀ H', Same H H' → Q (.bl (gw xs m)) H'
def spRow (K : PySem.W.Frag) : Sp := fun vs H Q _ => ∃ (p : Addr) (ns : List Int), vs = [.ref p] ∧ H p = some (.lst (ns.map V.int)) ∧ 1 ≤ ns.length ∧ ns.length ≤ 6 ∧ ∀ H', Same H H' → Q (.bl true) H'
def spTab (K : PySem.W.Frag) : Sp := fun vs H Q _ => ∃ (t : Addr) (rs : List Addr) (rows : List (List Int)) (w : Nat), vs = [.ref t] ∧ Tb H t rs rows w ∧ ∀ H', Same H H' → Q (.bl true) H'
def spLookTab (K : PySem.W.Frag) : Sp := fun vs H Q _ => ∃ (t : Addr) (rs : List Addr) (rows : List (List Int)) (w : Nat), vs = [.ref t] ∧ Tb H t rs rows w ∧ ∀ H', Same H H' → Q .non H'
def spRowSums (K : PySem.W.Frag) : Sp := fun vs H Q _ => ∃ (t l : Addr) (rs : List Addr) (rows : List (List Int)) (w : Nat) (ws : List Int), vs = [.ref t, .ref l] ∧ Tb H t rs rows w ∧ H l = some (.lst (ws.map V.int)) ∧ ws.length = w ∧ (∀ x ∈ ws, -1 ≤ x ∧ x ≤ 10) ∧ ∀ (r : Addr) (H' : Hp), Same H H' → H' r = some (.lst ((rsums ws rows).map V.int)) → Q (.ref r) H'
def spColSums (K : PySem.W.Frag) : Sp := fun vs H Q _ => ∃ (t l : Addr) (rs : List Addr) (rows : List (List Int)) (w : Nat) (ws : List Int), vs = [.ref t, .ref l] ∧ Tb H t rs rows w ∧ H l = some (.lst (ws.map V.int)) ∧ ws.length = rows.length ∧ (∀ x ∈ ws, -1 ≤ x ∧ x ≤ 10) ∧ ∀ (r : Addr) (H' : Hp), Same H H' → H' r = some (.lst ((csums ws rows w).map V.int)) → Q (.ref r) H'
def spBestRows (K : PySem.W.Frag) (a : Ad) : Sp := fun vs H Q E => ∃ (t l : Addr) (rs : List Addr) (rows : List (List Int)) (w : Nat) (xs : List V), vs = [.ref t, .ref l] ∧ Tb H t rs rows w ∧ H l = some (.lst xs) ∧ (∀ x ∈ xs, Wv x) ∧ xs.length ≤ 7 ∧ (good 0 xs rows w = false → ∀ H', Same H H' → E (.ref a.c_NoWeights) none H') ∧ (good 0 xs rows w = true → ∀ (r : Addr) (m : Int) (H' : Hp), Same H H' → H r = none → Best 0 (sms 0 xs rows w) m → H' r = some (.lst ((idx (sms 0 xs rows w) m).map V.int)) → Q (.ref r) H')
def spBestCols (K : PySem.W.Frag) (a : Ad) : Sp := fun vs H Q E => ∃ (t l : Addr) (rs : List Addr) (rows : List (List Int)) (w : Nat) (xs : List V), vs = [.ref t, .ref l] ∧ Tb H t rs rows w ∧ H l = some (.lst xs) ∧ (∀ x ∈ xs, Wv x) ∧ xs.length ≤ 7 ∧ (good 1 xs rows w = false → ∀ H', Same H H' → E (.ref a.c_NoWeights) none H') ∧ (good 1 xs rows w = true → ∀ (r : Addr) (m : Int) (H' : Hp), Same H H' → H r = none → Best 1 (sms 1 xs rows w) m → H' r = some (.lst ((idx (sms 1 xs rows w) m).map V.int)) → Q (.ref r) H')
def spDue (K : PySem.W.Frag) : Sp := fun vs H Q _ => ∃ (t l : Addr) (k : Int) (rs : List Addr) (rows : List (List Int)) (w : Nat) (xs : List V), vs = [.ref t, .ref l, .int k] ∧ (k = 0 ∨ k = 1) ∧ Tb H t rs rows w ∧ H l = some (.lst xs) ∧ (∀ x ∈ xs, Wv x) ∧ xs.length ≤ 7 ∧ (good k xs rows w = false → ∀ H', Same H H' → Q .non H') ∧ (good k xs rows w = true → ∀ (r : Addr) (m : Int) (H' : Hp), Same H H' → H r = none → Best k (sms k xs rows w) m → H' r = some (.lst ((idx (sms k xs rows w) m).map V.int)) → Q (.ref r) H')
def spMix : Sp := fun vs H Q _ => ∃ n k : Int, vs = [.int n, .int k] ∧ n.natAbs < 2 ^ 2 ^ 20 ∧ 0 ≤ k ∧ k ≤ 100000 ∧ ∀ r : Int, 0 ≤ r → r < 2147483587 → Q (.int r) H
def spCellAt (K : PySem.W.Frag) : Sp := fun vs H Q _ => ∃ (p : Addr) (x : Int), vs = [.ref p, .int 0] ∧ H p = some (.lst [.int x]) ∧ Q (.int x) H
def spLeft (K : PySem.W.Frag) : Sp := fun vs H Q _ => ∃ (p : Addr) (x : Int), vs = [.ref p, .int 0] ∧ H p = some (.lst [.int x]) ∧ x.natAbs < 2 ^ 2 ^ 20 ∧ ∀ (l : Addr) (H' : Hp), Same H H' → H l = none → Drw H' l 0 → Q (.ref l) H'
def spDraw : Sp := fun vs H Q _ => ∃ (p : Addr) (c m : Int), vs = [.ref p, .int m] ∧ Drw H p c ∧ c < 10000 ∧ 0 < m ∧ m ≤ 1000000000000000000000000000000 ∧ ∀ (r : Int) (H' : Hp), 0 ≤ r → r < m → Off p p H' = Off p p H → Drw H' p (c + 1) → Q (.int r) H'
def spTable (K : PySem.W.Frag) : Sp := fun vs H Q _ => ∃ (p : Addr) (c : Int), vs = [.ref p] ∧ Drw H p c ∧ c < 1000 ∧ ∀ (t : Addr) (rs : List Addr) (rows : List (List Int)) (w : Nat) (c' : Int) (H' : Hp), Same (Off p p H) (Off p p H') → Drw H' p c' → c' ≤ c + 39 → Tb (Off p p H') t rs rows w → Q (.ref t) H'
def spCopy (K : PySem.W.Frag) : Sp := fun vs H Q _ => ∃ (t : Addr) (rs : List Addr) (rows : List (List Int)) (w : Nat), vs = [.ref t] ∧ Tb H t rs rows w ∧ ∀ (t' : Addr) (rs' : List Addr) (H' : Hp), Same H H' → Tb H' t' rs' rows w → Q (.ref t') H'
def spSome (K : PySem.W.Frag) : Sp := fun vs H Q _ => ∃ (p : Addr) (c m : Int), vs = [.ref p, .int m] ∧ Drw H p c ∧ c < 1000 ∧ 1 ≤ m ∧ m ≤ 6 ∧ ∀ (l : Addr) (xs : List V) (c' : Int) (H' : Hp), Same (Off p p H) (Off p p H') → Drw H' p c' → c' ≤ c + 8 → Off p p H' l = some (.lst xs) → xs.length ≤ 7 → (∀ x ∈ xs, Wv x) → Q (.ref l) H'
def spLaw (K : PySem.W.Frag) : Sp := fun vs H Q _ => ∃ (a : Addr) (ns : List Int), vs = [.ref a] ∧ SqL K H a (ns.map V.int) ∧ ns.length ≤ 63 ∧ (∀ x ∈ ns, x.natAbs < 2 ^ 2 ^ 20) ∧ ∀ H', Q (.bl true) H'
section
variable {P : Program} {w : World} {mg : Str → Option Value} {base : Heap}
variable {K : PySem.W.Frag} {H : Hp} {Q : VK} {a : Ad} {E : XK}
def t_is_whole (K : PySem.W.Frag) : TS :=
  (tRet (tAndV (tCB (rIsi K) (tCons (tVar 0) (tCons (tC (.ty "int")) tNil))) (tNotV (tCB (rIsi K) (tCons (tVar 0) (tCons (tC (.ty "bool")) tNil))))))
theorem rd_is_whole {x : V} (q : (∃ n : Int, x = .int n) ∧ Q (.bl true) H ∨ (∃ b : Bool, x = .bl b) ∧ Q (.bl false) H) : t_is_whole K { nx := fun _ H' => Q .non H', rt := Q } (L2.start ["thing"] [x]) H := by
  unfold t_is_whole
  simp only [↓tVar_c0,↓ex_bl,↓ex_int,↓ex_ref,↓ex_l1i,↓ex_l1r,↓tComp_eq,capS,↓rAppend,Option.bind_some,Option.bind_none,Option.join_some,Option.map_some,List.getElem?_cons_zero,List.getElem?_cons_succ,V.str.injEq,V.ty.injEq,↓tFor_eq,↓tSeq,↓tNext,↓tCB,↓tCons,↓tNil,tVar,↓tC,↓tAndV,↓tNotV,↓tRet,L2.start,truV_int,truV_bl,scal_int,scal_bl,List.map_cons,List.map_nil,List.length_cons,List.length_nil,List.replicate,List.cons_append,List.nil_append,List.append_nil,Option.some.injEq,exists_eq_left',exists_eq_left,exists_and_left,List.cons.injEq,V.int.injEq,V.ref.injEq,V.bl.injEq,and_true,true_and,List.set_cons_zero,List.set_cons_succ,Nat.reduceAdd,Nat.reduceSub,Int.reduceToNat,Int.reducePow,Int.reduceNeg,Int.reduceMul,Int.reduceAdd,Int.reduceSub,decide_eq_true_eq,Bool.not_eq_true',decide_eq_false_iff_not,exists_const,and_assoc,exists_eq,exists_eq',if_true,if_false,Bool.false_eq_true,Bool.true_eq_false,reduceCtorEq,not_true_eq_false,not_false_eq_true]
  rcases q with ⟨⟨n, rfl⟩, q⟩ | ⟨⟨b, rfl⟩, q⟩
  · refine isi_int_int ⟨_, rfl, iteT ?_⟩
    exact isi_int_bool ⟨_, rfl, q⟩
  · refine isi_ty (.bl b) (kit_bool_int K) ⟨_, rfl, iteT ?_⟩
    exact isi_ty (.bl b) kit_bool_bool ⟨_, rfl, q⟩
theorem sc_is_whole : FnScope ["thing"] ["thing"] (defScope s_is_whole) := ⟨rfl, rfl, rfl, by decide +kernel, rfl, by decide +kernel, by decide +kernel⟩
theorem ok_is_whole (T : Txt K mg a) : FnOk P w K mg base CX0 1 a.f_is_whole a.d_is_whole ["thing"] spWholeX := by
  refine T.F_is_whole.ok sc_is_whole (fun vs H Q E h => ?_) (fun cdv A outer s H vs Q E hr h => ?_)
  · obtain ⟨x, rfl, q⟩ := h
    rfl
  obtain ⟨x, rfl, q⟩ := h
  exact ⟨t_is_whole K, (pss_one (ps_ret (pe_and (pe_callB call_isinst rfl T.z_isinstance PyProof.Rows.boot_isinstance (pa_cons (pv 0) (pa_cons (pe_bltn rfl T.z_int boot_int rfl) pa_nil))) (pe_one (pe_not (pe_callB call_isinst rfl T.z_isinstance PyProof.Rows.boot_isinstance (pa_cons (pv 0) (pa_cons (pe_bltn rfl T.z_bool boot_bool rfl) pa_nil)))))))),
    rd_is_whole q⟩
def t__law_whole (K : PySem.W.Frag) : TS :=
  (tRet (tAndV (tCB (rIsi K) (tCons (tVar 0) (tCons (tC (.ty "int")) tNil))) (tNotV (tCB (rIsi K) (tCons (tVar 0) (tCons (tC (.ty "bool")) tNil))))))
theorem rd__law_whole {x : V} (q : (∃ n : Int, x = .int n) ∧ Q (.bl true) H ∨ (∃ b : Bool, x = .bl b) ∧ Q (.bl false) H) : t__law_whole K { nx := fun _ H' => Q .non H', rt := Q } (L2.start ["_law_thing"] [x]) H := by
  unfold t__law_whole
  simp only [↓tVar_c0,↓tVar_c1,↓rI0_c,↓ex_bl,↓ex_int,↓ex_ref,↓ex_l1i,↓ex_l1r,↓tComp_eq,↓rAll,↓rSum,capS,↓tNoTest,↓rAppend,Option.bind_some,Option.bind_none,Option.join_some,Option.map_some,List.getElem?_cons_zero,List.getElem?_cons_succ,V.str.injEq,V.ty.injEq,↓tFor_eq,↓iList,↓tSeq,↓tNext,↓gName,↓tCB,↓tCons,↓tNil,tVar,↓tC,↓tOp,↓tTest,↓tB,↓tOr,↓tNot,↓tAndV,↓tNotV,↓tIfS,↓tRet,↓tCall,rI0,↓rNe,L2.start,truV_int,truV_bl,scal_int,scal_bl,List.map_cons,List.map_nil,List.length_cons,List.length_nil,List.replicate,List.cons_append,List.nil_append,List.append_nil,Option.some.injEq,exists_eq_left',exists_eq_left,exists_and_left,List.cons.injEq,V.int.injEq,V.ref.injEq,V.bl.injEq,and_true,true_and,List.set_cons_zero,List.set_cons_succ,Nat.reduceAdd,Nat.reduceSub,Int.reduceToNat,Int.reducePow,Int.reduceNeg,Int.reduceMul,Int.reduceAdd,Int.reduceSub,decide_eq_true_eq,Bool.not_eq_true',decide_eq_false_iff_not,exists_const,and_assoc,exists_eq,exists_eq',if_true,if_false,Bool.false_eq_true,Bool.true_eq_false,reduceCtorEq,not_true_eq_false,not_false_eq_true]
  rcases q with ⟨⟨n, rfl⟩, q⟩ | ⟨⟨b, rfl⟩, q⟩
  · refine isi_int_int ⟨_, rfl, iteT ?_⟩
    exact isi_int_bool ⟨_, rfl, q⟩
  · refine isi_ty (.bl b) (kit_bool_int K) ⟨_, rfl, iteT ?_⟩
    exact isi_ty (.bl b) kit_bool_bool ⟨_, rfl, q⟩
theorem sc__law_whole : FnScope ["_law_thing"] ["_law_thing"] (defScope s__law_whole) := ⟨rfl, rfl, rfl, by decide +kernel, rfl, by decide +kernel, by decide +kernel⟩
theorem ok__law_whole (T : Txt K mg a) : FnOk P w K mg base CX0 1 a.f__law_whole a.d__law_whole ["_law_thing"] spWholeX := by
  refine T.F__law_whole.ok sc__law_whole (fun vs H Q E h => ?_) (fun cdv A outer s H vs Q E hr h => ?_)
  · obtain ⟨x, rfl, q⟩ := h
    rfl
  obtain ⟨x, rfl, q⟩ := h
  exact ⟨t__law_whole K, (pss_one (ps_ret (pe_and (pe_callB call_isinst rfl T.z_isinstance PyProof.Rows.boot_isinstance (pa_cons (pv 0) (pa_cons (pe_bltn rfl T.z_int boot_int rfl) pa_nil))) (pe_one (pe_not (pe_callB call_isinst rfl T.z_isinstance PyProof.Rows.boot_isinstance (pa_cons (pv 0) (pa_cons (pe_bltn rfl T.z_bool boot_bool rfl) pa_nil)))))))),
    rd__law_whole q⟩
theorem take_succ_map {α β : Type} {f : α → β} {l : List α} {i : Nat} {x : α} (e : l[i]? = some x) : (l.take (i + 1)).map f = (l.take i).map f ++ [f x] := by
  rw [List.take_add_one, e, List.map_append]
  rfl
theorem all_okv (xs : List V) : (xs.map okv).all id = xs.all okv := by
  rw [List.all_map]
  rfl
def t_are_weights_0 (K : PySem.W.Frag) : TS :=
  (tRet (tAndV (tCB (rAll K) (tCons (tComp (iList K (tVar 0)) (gName 0) tNoTest (tAndV (tCall spWholeX [] E0 (tCons (tVar 0) tNil)) (tOp (rI0 fun i j => .bl (decide (j ≤ i))) (tVar 0) (tC (.int 0)))) [none]) tNil)) (tOp (rI0 fun i j => .bl (decide (j < i))) (tCB (rSum K) (tCons (tVar 0) tNil)) (tC (.int 0)))))
theorem t_are_weights_0_eq (K : PySem.W.Frag) (D : Ends) (σ : St) (H : Hp) : t_are_weights_0 K D σ H = (tRet (tAndV (tCB (rAll K) (tCons (tComp (iList K (tVar 0)) (gName 0) tNoTest (tAndV (tCall spWholeX [] E0 (tCons (tVar 0) tNil)) (tOp (rI0 fun i j => .bl (decide (j ≤ i))) (tVar 0) (tC (.int 0)))) [none]) tNil)) (tOp (rI0 fun i j => .bl (decide (j < i))) (tCB (rSum K) (tCons (tVar 0) tNil)) (tC (.int 0))))) D σ H := rfl
def t_are_weights_1 (K : PySem.W.Frag) : TS :=
  (tIfS (tOr (tNot (tB (tCB (rIsi K) (tCons (tVar 0) (tCons (tC (.ty "list")) tNil))))) (tTest (tOp rNe (tCB (fun xs H Q => ∃ p ys, xs = [.ref p] ∧ (SqL K H p ys ∨ SqT K H p ys) ∧ Q (.int ys.length) H) (tCons (tVar 0) tNil)) (tVar 1)))) (tRet (tC (.bl false))) tNext)
theorem t_are_weights_1_eq (K : PySem.W.Frag) (D : Ends) (σ : St) (H : Hp) : t_are_weights_1 K D σ H = (tIfS (tOr (tNot (tB (tCB (rIsi K) (tCons (tVar 0) (tCons (tC (.ty "list")) tNil))))) (tTest (tOp rNe (tCB (fun xs H Q => ∃ p ys, xs = [.ref p] ∧ (SqL K H p ys ∨ SqT K H p ys) ∧ Q (.int ys.length) H) (tCons (tVar 0) tNil)) (tVar 1)))) (tRet (tC (.bl false))) tNext) D σ H := rfl
def t_are_weights (K : PySem.W.Frag) : TS :=
  (tSeq (tCut (t_are_weights_1 K))
  (t_are_weights_0 K))
theorem rd_are_weights {p : Addr} {xs : List V} {m : Int} (hp : H p = some (.lst xs)) (hx : ∀ x ∈ xs, Wv x) (hl : xs.length ≤ 7) (q : ∀ H', Same H H' → Q (.bl (gw xs m)) H') :
    t_are_weights K { nx := fun _ H' => Q .non H', rt := Q } (L2.start ["thing", "many"] [.ref p, .int m]) H := by
  unfold t_are_weights
  simp only [t_are_weights_0_eq,t_are_weights_1_eq,↓tVar_c0,↓tVar_c1,↓rI0_c,↓ex_bl,↓ex_int,↓ex_ref,↓ex_l1i,↓ex_l1r,↓tComp_eq,↓rAll,↓rSum,capS,↓tNoTest,↓rAppend,Option.bind_some,Option.bind_none,Option.join_some,Option.map_some,List.getElem?_cons_zero,List.getElem?_cons_succ,V.str.injEq,V.ty.injEq,↓tFor_eq,↓iList,↓tSeq,↓tNext,↓gName,↓tCB,↓tCons,↓tNil,tVar,↓tC,↓tOp,↓tTest,↓tB,↓tOr,↓tNot,↓tAndV,↓tIfS,↓tRet,↓tCall,rI0,↓rEq,↓rNe,L2.start,truV_int,truV_bl,scal_int,scal_bl,List.map_cons,List.map_nil,List.length_cons,List.length_nil,List.replicate,List.cons_append,List.nil_append,List.append_nil,Option.some.injEq,exists_eq_left',exists_eq_left,exists_and_left,List.cons.injEq,V.int.injEq,V.ref.injEq,V.bl.injEq,and_true,true_and,List.set_cons_zero,List.set_cons_succ,Nat.reduceAdd,Nat.reduceSub,Int.reduceToNat,Int.reducePow,Int.reduceNeg,Int.reduceMul,Int.reduceAdd,Int.reduceSub,decide_eq_true_eq,Bool.not_eq_true',decide_eq_false_iff_not,exists_const,and_assoc,exists_eq,exists_eq',if_true,if_false,Bool.false_eq_true,Bool.true_eq_false,reduceCtorEq,not_true_eq_false,not_false_eq_true]
  refine ⟨fun σ H' => H' = H ∧ (xs.length : Int) = m ∧ σ = [some (.ref p), some (.int m)], ?_, ?_⟩
  · simp only [t_are_weights_0_eq,t_are_weights_1_eq,↓tVar_c0,↓tVar_c1,↓rI0_c,↓ex_bl,↓ex_int,↓ex_ref,↓ex_l1i,↓ex_l1r,↓tComp_eq,↓rAll,↓rSum,capS,↓tNoTest,↓rAppend,Option.bind_some,Option.bind_none,Option.join_some,Option.map_some,List.getElem?_cons_zero,List.getElem?_cons_succ,V.str.injEq,V.ty.injEq,↓tFor_eq,↓iList,↓tSeq,↓tNext,↓gName,↓tCB,↓tCons,↓tNil,tVar,↓tC,↓tOp,↓tTest,↓tB,↓tOr,↓tNot,↓tAndV,↓tIfS,↓tRet,↓tCall,rI0,↓rEq,↓rNe,L2.start,truV_int,truV_bl,scal_int,scal_bl,List.map_cons,List.map_nil,List.length_cons,List.length_nil,List.replicate,List.cons_append,List.nil_append,List.append_nil,Option.some.injEq,exists_eq_left',exists_eq_left,exists_and_left,List.cons.injEq,V.int.injEq,V.ref.injEq,V.bl.injEq,and_true,true_and,List.set_cons_zero,List.set_cons_succ,Nat.reduceAdd,Nat.reduceSub,Int.reduceToNat,Int.reducePow,Int.reduceNeg,Int.reduceMul,Int.reduceAdd,Int.reduceSub,decide_eq_true_eq,Bool.not_eq_true',decide_eq_false_iff_not,exists_const,and_assoc,exists_eq,exists_eq',if_true,if_false,Bool.false_eq_true,Bool.true_eq_false,reduceCtorEq,not_true_eq_false,not_false_eq_true]
    refine isi_lst_lst hp ⟨true, rfl, ?_⟩
    simp only [t_are_weights_0_eq,t_are_weights_1_eq,↓tVar_c0,↓tVar_c1,↓rI0_c,↓ex_bl,↓ex_int,↓ex_ref,↓ex_l1i,↓ex_l1r,↓tComp_eq,↓rAll,↓rSum,capS,↓tNoTest,↓rAppend,Option.bind_some,Option.bind_none,Option.join_some,Option.map_some,List.getElem?_cons_zero,List.getElem?_cons_succ,V.str.injEq,V.ty.injEq,↓tFor_eq,↓iList,↓tSeq,↓tNext,↓gName,↓tCB,↓tCons,↓tNil,tVar,↓tC,↓tOp,↓tTest,↓tB,↓tOr,↓tNot,↓tAndV,↓tIfS,↓tRet,↓tCall,rI0,↓rEq,↓rNe,L2.start,truV_int,truV_bl,scal_int,scal_bl,List.map_cons,List.map_nil,List.length_cons,List.length_nil,List.replicate,List.cons_append,List.nil_append,List.append_nil,Option.some.injEq,exists_eq_left',exists_eq_left,exists_and_left,List.cons.injEq,V.int.injEq,V.ref.injEq,V.bl.injEq,and_true,true_and,List.set_cons_zero,List.set_cons_succ,Nat.reduceAdd,Nat.reduceSub,Int.reduceToNat,Int.reducePow,Int.reduceNeg,Int.reduceMul,Int.reduceAdd,Int.reduceSub,decide_eq_true_eq,Bool.not_eq_true',decide_eq_false_iff_not,exists_const,and_assoc,exists_eq,exists_eq',if_true,if_false,Bool.false_eq_true,Bool.true_eq_false,reduceCtorEq,not_true_eq_false,not_false_eq_true]
    refine ⟨xs, .inl (SqL.of hp), ite2 (fun c => ?_) (fun c => Decidable.not_not.mp c)⟩
    have := q H (.refl _)
    unfold gw at this
    rw [decide_eq_false c, Bool.false_and] at this
    exact this
  · rintro σ H1 ⟨rfl, em, rfl⟩
    simp only [t_are_weights_0_eq,t_are_weights_1_eq,↓tVar_c0,↓tVar_c1,↓rI0_c,↓ex_bl,↓ex_int,↓ex_ref,↓ex_l1i,↓ex_l1r,↓tComp_eq,↓rAll,↓rSum,capS,↓tNoTest,↓rAppend,Option.bind_some,Option.bind_none,Option.join_some,Option.map_some,List.getElem?_cons_zero,List.getElem?_cons_succ,V.str.injEq,V.ty.injEq,↓tFor_eq,↓iList,↓tSeq,↓tNext,↓gName,↓tCB,↓tCons,↓tNil,tVar,↓tC,↓tOp,↓tTest,↓tB,↓tOr,↓tNot,↓tAndV,↓tIfS,↓tRet,↓tCall,rI0,↓rEq,↓rNe,L2.start,truV_int,truV_bl,scal_int,scal_bl,List.map_cons,List.map_nil,List.length_cons,List.length_nil,List.replicate,List.cons_append,List.nil_append,List.append_nil,Option.some.injEq,exists_eq_left',exists_eq_left,exists_and_left,List.cons.injEq,V.int.injEq,V.ref.injEq,V.bl.injEq,and_true,true_and,List.set_cons_zero,List.set_cons_succ,Nat.reduceAdd,Nat.reduceSub,Int.reduceToNat,Int.reducePow,Int.reduceNeg,Int.reduceMul,Int.reduceAdd,Int.reduceSub,decide_eq_true_eq,Bool.not_eq_true',decide_eq_false_iff_not,exists_const,and_assoc,exists_eq,exists_eq',if_true,if_false,Bool.false_eq_true,Bool.true_eq_false,reduceCtorEq,not_true_eq_false,not_false_eq_true]
    refine ⟨⟨_, SqL.of hp⟩, fun D hD => ?_⟩
    refine comp_listF (K := K) (xs := xs) (fun i ys σ H' => Same H1 H' ∧ ys = ((xs.take i).map okv).map V.bl ∧ ∃ x, σ = [x]) ⟨same_new hD _, rfl, _, rfl⟩ ?_ ?_ ?_
    · rintro i ys σ H' _ ⟨s, _⟩
      exact SqL.of (s _ _ hp)
    · rintro i x ys σ H' hi hD' ⟨s, rfl, y, rfl⟩
      have li := (List.getElem?_eq_some_iff.mp hi).1
      simp only [t_are_weights_0_eq,t_are_weights_1_eq,↓tVar_c0,↓tVar_c1,↓rI0_c,↓ex_bl,↓ex_int,↓ex_ref,↓ex_l1i,↓ex_l1r,↓tComp_eq,↓rAll,↓rSum,capS,↓tNoTest,↓rAppend,Option.bind_some,Option.bind_none,Option.join_some,Option.map_some,List.getElem?_cons_zero,List.getElem?_cons_succ,V.str.injEq,V.ty.injEq,↓tFor_eq,↓iList,↓tSeq,↓tNext,↓gName,↓tCB,↓tCons,↓tNil,tVar,↓tC,↓tOp,↓tTest,↓tB,↓tOr,↓tNot,↓tAndV,↓tIfS,↓tRet,↓tCall,rI0,↓rEq,↓rNe,L2.start,truV_int,truV_bl,scal_int,scal_bl,List.map_cons,List.map_nil,List.length_cons,List.length_nil,List.replicate,List.cons_append,List.nil_append,List.append_nil,Option.some.injEq,exists_eq_left',exists_eq_left,exists_and_left,List.cons.injEq,V.int.injEq,V.ref.injEq,V.bl.injEq,and_true,true_and,List.set_cons_zero,List.set_cons_succ,Nat.reduceAdd,Nat.reduceSub,Int.reduceToNat,Int.reducePow,Int.reduceNeg,Int.reduceMul,Int.reduceAdd,Int.reduceSub,decide_eq_true_eq,Bool.not_eq_true',decide_eq_false_iff_not,exists_const,and_assoc,exists_eq,exists_eq',if_true,if_false,Bool.false_eq_true,Bool.true_eq_false,reduceCtorEq,not_true_eq_false,not_false_eq_true]
      rcases hx x (mem_at hi) with ⟨n, rfl, _⟩ | rfl
      · refine ⟨_, rfl, .inl ⟨⟨n, rfl⟩, true, rfl, iteT ⟨n, rfl, _, hD', by simp [sizeLine]; omega, _, upd_same, s.put hD, ?_⟩⟩⟩
        rw [take_succ_map hi, List.map_append]
        rfl
      · refine ⟨_, rfl, .inr ⟨⟨_, rfl⟩, false, rfl, iteF ⟨_, hD', by simp [sizeLine]; omega, _, upd_same, s.put hD, ?_⟩⟩⟩
        rw [take_succ_map hi, List.map_append]
        rfl
    · rintro ys σ H' hD' ⟨s, rfl, y, rfl⟩
      rw [List.take_length] at hD'
      have q1 := q H' s
      unfold gw at q1
      rw [decide_eq_true em, Bool.true_and] at q1
      refine ⟨D, rfl, xs.map okv, SqL.of hD', ite2 (fun c => ?_) (fun c => ?_)⟩
      · rw [all_okv] at c
        rw [c, Bool.true_and] at q1
        exact ⟨xs.map iv, SqL.of (by rw [← okv_ints c]; exact s _ _ hp), q1⟩
      · rw [all_okv] at c
        rw [Bool.not_eq_true] at c
        rw [c, Bool.false_and] at q1
        exact q1
theorem sc_are_weights : FnScope ["thing", "many"] ["thing", "many"] (defScope s_are_weights) := ⟨rfl, rfl, rfl, by decide +kernel, rfl, by decide +kernel, by decide +kernel⟩
theorem ok_are_weights (T : Txt K mg a) : FnOk P w K mg base CX0 2 a.f_are_weights a.d_are_weights ["thing", "many"] (spWeights K) := by
  have G_is_whole := ok_is_whole (P := P) (w := w) (base := base) T
  refine T.F_are_weights.ok sc_are_weights (fun vs H Q E h => ?_) (fun cdv A outer s H vs Q E hr h => ?_)
  · obtain ⟨p, xs, m, rfl, hp, hx, hl, q⟩ := h
    rfl
  obtain ⟨p, xs, m, rfl, hp, hx, hl, q⟩ := h
  exact ⟨t_are_weights K, (pss_cons (ps_cut (ps_if (PW.pt (pw_or (pt_not (pt_val (pe_callB call_isinst rfl T.z_isinstance PyProof.Rows.boot_isinstance (pa_cons (pv 0) (pa_cons (pe_bltn rfl T.z_list boot_list rfl) pa_nil))))) (pw_or1 (pt_cmpR op_ne (pe_callB call_len_seq rfl T.z_len PySem.boot_len (pa_cons (pv 0) pa_nil)) (pv 1) (nomark _))))) (pss_one (ps_ret pe_bl)) pss_nil))
  (pss_one (ps_ret (pe_and (pe_callB (call_all rfl) rfl T.z_all PyProof.Rows.boot_all (pa_cons (pe_comp (sc := defScope s_are_weights) (N := ["thing", "many"]) (Nc := ["weight"]) (cap := [none]) rfl rfl rfl (.of (by decide +kernel)) (pi_list (pv 0)) (fun _ _ _ _ => (pg_name (i := 0) (show List.Nodup (["weight"] : List Str) from by decide) rfl (Or.inl rfl))) (fun _ _ _ _ => pts_nil) (fun _ _ _ _ => (pe_and (pe_call G_is_whole (hr.mono (by decide)) rfl T.m_is_whole T.F_is_whole.kp T.b_is_whole .nil pass0 (pa_cons (pv 0) pa_nil)) (pe_one (pe_cmpR op_ge (pv 0) pe_int (nomark _)))))) pa_nil)) (pe_one (pe_cmpR op_gt (pe_callB (call_sum rfl) rfl T.z_sum PyProof.Rows.boot_sum (pa_cons (pv 0) pa_nil)) pe_int (nomark _))))))),
    rd_are_weights hp hx hl q⟩
def t__law_weights_0 (K : PySem.W.Frag) : TS :=
  (tRet (tAndV (tOp rEq (tCB (fun xs H Q => ∃ p ys, xs = [.ref p] ∧ (SqL K H p ys ∨ SqT K H p ys) ∧ Q (.int ys.length) H) (tCons (tComp (iList K (tVar 0)) (gName 0) (tOr (tNot (tB (tCall spWholeX [] E0 (tCons (tVar 0) tNil)))) (tTest (tOp (rI0 fun i j => .bl (decide (i < j))) (tVar 0) (tC (.int 0))))) (tVar 0) [none]) tNil)) (tC (.int 0))) (tOp (rI0 fun i j => .bl (decide (j < i))) (tCB (rSum K) (tCons (tVar 0) tNil)) (tC (.int 0)))))
theorem t__law_weights_0_eq (K : PySem.W.Frag) (D : Ends) (σ : St) (H : Hp) : t__law_weights_0 K D σ H = (tRet (tAndV (tOp rEq (tCB (fun xs H Q => ∃ p ys, xs = [.ref p] ∧ (SqL K H p ys ∨ SqT K H p ys) ∧ Q (.int ys.length) H) (tCons (tComp (iList K (tVar 0)) (gName 0) (tOr (tNot (tB (tCall spWholeX [] E0 (tCons (tVar 0) tNil)))) (tTest (tOp (rI0 fun i j => .bl (decide (i < j))) (tVar 0) (tC (.int 0))))) (tVar 0) [none]) tNil)) (tC (.int 0))) (tOp (rI0 fun i j => .bl (decide (j < i))) (tCB (rSum K) (tCons (tVar 0) tNil)) (tC (.int 0))))) D σ H := rfl
def t__law_weights_1 (K : PySem.W.Frag) : TS :=
  (tIfS (tOr (tNot (tB (tCB (rIsi K) (tCons (tVar 0) (tCons (tC (.ty "list")) tNil))))) (tTest (tOp rNe (tCB (fun xs H Q => ∃ p ys, xs = [.ref p] ∧ (SqL K H p ys ∨ SqT K H p ys) ∧ Q (.int ys.length) H) (tCons (tVar 0) tNil)) (tVar 1)))) (tRet (tC (.bl false))) tNext)
theorem t__law_weights_1_eq (K : PySem.W.Frag) (D : Ends) (σ : St) (H : Hp) : t__law_weights_1 K D σ H = (tIfS (tOr (tNot (tB (tCB (rIsi K) (tCons (tVar 0) (tCons (tC (.ty "list")) tNil))))) (tTest (tOp rNe (tCB (fun xs H Q => ∃ p ys, xs = [.ref p] ∧ (SqL K H p ys ∨ SqT K H p ys) ∧ Q (.int ys.length) H) (tCons (tVar 0) tNil)) (tVar 1)))) (tRet (tC (.bl false))) tNext) D σ H := rfl
def t__law_weights (K : PySem.W.Frag) : TS :=
  (tSeq (tCut (t__law_weights_1 K))
  (t__law_weights_0 K))
theorem rd__law_weights {p : Addr} {xs : List V} {m : Int} (hp : H p = some (.lst xs)) (hx : ∀ x ∈ xs, Wv x) (hl : xs.length ≤ 7) (q : ∀ H', Same H H' → Q (.bl (gw xs m)) H') :
    t__law_weights K { nx := fun _ H' => Q .non H', rt := Q } (L2.start ["_law_thing", "_law_many"] [.ref p, .int m]) H := by
  unfold t__law_weights
  simp only [t__law_weights_0_eq,t__law_weights_1_eq,↓tVar_c0,↓tVar_c1,↓rI0_c,↓ex_bl,↓ex_int,↓ex_ref,↓ex_l1i,↓ex_l1r,↓tComp_eq,↓rAll,↓rSum,capS,↓tNoTest,↓tChain,↓rAppend,Option.bind_some,Option.bind_none,Option.join_some,Option.map_some,List.getElem?_cons_zero,List.getElem?_cons_succ,V.str.injEq,V.ty.injEq,↓tFor_eq,↓iList,↓tSeq,↓tNext,↓gName,↓tCB,↓tCons,↓tNil,tVar,↓tC,↓tOp,↓tTest,↓tB,↓tOr,↓tNot,↓tAndV,↓tIfS,↓tRet,↓tCall,rI0,↓rEq,↓rNe,L2.start,truV_int,truV_bl,scal_int,scal_bl,List.map_cons,List.map_nil,List.length_cons,List.length_nil,List.replicate,List.cons_append,List.nil_append,List.append_nil,Option.some.injEq,exists_eq_left',exists_eq_left,exists_and_left,List.cons.injEq,V.int.injEq,V.ref.injEq,V.bl.injEq,and_true,true_and,List.set_cons_zero,List.set_cons_succ,Nat.reduceAdd,Nat.reduceSub,Int.reduceToNat,Int.reducePow,Int.reduceNeg,Int.reduceMul,Int.reduceAdd,Int.reduceSub,decide_eq_true_eq,Bool.not_eq_true',decide_eq_false_iff_not,exists_const,and_assoc,exists_eq,exists_eq',if_true,if_false,Bool.false_eq_true,Bool.true_eq_false,reduceCtorEq,not_true_eq_false,not_false_eq_true]
  refine ⟨fun σ H' => H' = H ∧ (xs.length : Int) = m ∧ σ = [some (.ref p), some (.int m)], ?_, ?_⟩
  · simp only [t__law_weights_0_eq,t__law_weights_1_eq,↓tVar_c0,↓tVar_c1,↓rI0_c,↓ex_bl,↓ex_int,↓ex_ref,↓ex_l1i,↓ex_l1r,↓tComp_eq,↓rAll,↓rSum,capS,↓tNoTest,↓tChain,↓rAppend,Option.bind_some,Option.bind_none,Option.join_some,Option.map_some,List.getElem?_cons_zero,List.getElem?_cons_succ,V.str.injEq,V.ty.injEq,↓tFor_eq,↓iList,↓tSeq,↓tNext,↓gName,↓tCB,↓tCons,↓tNil,tVar,↓tC,↓tOp,↓tTest,↓tB,↓tOr,↓tNot,↓tAndV,↓tIfS,↓tRet,↓tCall,rI0,↓rEq,↓rNe,L2.start,truV_int,truV_bl,scal_int,scal_bl,List.map_cons,List.map_nil,List.length_cons,List.length_nil,List.replicate,List.cons_append,List.nil_append,List.append_nil,Option.some.injEq,exists_eq_left',exists_eq_left,exists_and_left,List.cons.injEq,V.int.injEq,V.ref.injEq,V.bl.injEq,and_true,true_and,List.set_cons_zero,List.set_cons_succ,Nat.reduceAdd,Nat.reduceSub,Int.reduceToNat,Int.reducePow,Int.reduceNeg,Int.reduceMul,Int.reduceAdd,Int.reduceSub,decide_eq_true_eq,Bool.not_eq_true',decide_eq_false_iff_not,exists_const,and_assoc,exists_eq,exists_eq',if_true,if_false,Bool.false_eq_true,Bool.true_eq_false,reduceCtorEq,not_true_eq_false,not_false_eq_true]
    refine isi_lst_lst hp ⟨true, rfl, ?_⟩
    simp only [t__law_weights_0_eq,t__law_weights_1_eq,↓tVar_c0,↓tVar_c1,↓rI0_c,↓ex_bl,↓ex_int,↓ex_ref,↓ex_l1i,↓ex_l1r,↓tComp_eq,↓rAll,↓rSum,capS,↓tNoTest,↓tChain,↓rAppend,Option.bind_some,Option.bind_none,Option.join_some,Option.map_some,List.getElem?_cons_zero,List.getElem?_cons_succ,V.str.injEq,V.ty.injEq,↓tFor_eq,↓iList,↓tSeq,↓tNext,↓gName,↓tCB,↓tCons,↓tNil,tVar,↓tC,↓tOp,↓tTest,↓tB,↓tOr,↓tNot,↓tAndV,↓tIfS,↓tRet,↓tCall,rI0,↓rEq,↓rNe,L2.start,truV_int,truV_bl,scal_int,scal_bl,List.map_cons,List.map_nil,List.length_cons,List.length_nil,List.replicate,List.cons_append,List.nil_append,List.append_nil,Option.some.injEq,exists_eq_left',exists_eq_left,exists_and_left,List.cons.injEq,V.int.injEq,V.ref.injEq,V.bl.injEq,and_true,true_and,List.set_cons_zero,List.set_cons_succ,Nat.reduceAdd,Nat.reduceSub,Int.reduceToNat,Int.reducePow,Int.reduceNeg,Int.reduceMul,Int.reduceAdd,Int.reduceSub,decide_eq_true_eq,Bool.not_eq_true',decide_eq_false_iff_not,exists_const,and_assoc,exists_eq,exists_eq',if_true,if_false,Bool.false_eq_true,Bool.true_eq_false,reduceCtorEq,not_true_eq_false,not_false_eq_true]
    refine ⟨xs, .inl (SqL.of hp), ite2 (fun c => ?_) (fun c => Decidable.not_not.mp c)⟩
    have := q H (.refl _)
    unfold gw at this
    rw [decide_eq_false c, Bool.false_and] at this
    exact this
  · rintro σ H1 ⟨rfl, em, rfl⟩
    simp only [t__law_weights_0_eq,t__law_weights_1_eq,↓tVar_c0,↓tVar_c1,↓rI0_c,↓ex_bl,↓ex_int,↓ex_ref,↓ex_l1i,↓ex_l1r,↓tComp_eq,↓rAll,↓rSum,capS,↓tNoTest,↓tChain,↓rAppend,Option.bind_some,Option.bind_none,Option.join_some,Option.map_some,List.getElem?_cons_zero,List.getElem?_cons_succ,V.str.injEq,V.ty.injEq,↓tFor_eq,↓iList,↓tSeq,↓tNext,↓gName,↓tCB,↓tCons,↓tNil,tVar,↓tC,↓tOp,↓tTest,↓tB,↓tOr,↓tNot,↓tAndV,↓tIfS,↓tRet,↓tCall,rI0,↓rEq,↓rNe,L2.start,truV_int,truV_bl,scal_int,scal_bl,List.map_cons,List.map_nil,List.length_cons,List.length_nil,List.replicate,List.cons_append,List.nil_append,List.append_nil,Option.some.injEq,exists_eq_left',exists_eq_left,exists_and_left,List.cons.injEq,V.int.injEq,V.ref.injEq,V.bl.injEq,and_true,true_and,List.set_cons_zero,List.set_cons_succ,Nat.reduceAdd,Nat.reduceSub,Int.reduceToNat,Int.reducePow,Int.reduceNeg,Int.reduceMul,Int.reduceAdd,Int.reduceSub,decide_eq_true_eq,Bool.not_eq_true',decide_eq_false_iff_not,exists_const,and_assoc,exists_eq,exists_eq',if_true,if_false,Bool.false_eq_true,Bool.true_eq_false,reduceCtorEq,not_true_eq_false,not_false_eq_true]
    refine ⟨⟨_, SqL.of hp⟩, fun D hD => ?_⟩
    refine comp_listF (K := K) (xs := xs) (fun i ys σ H' => Same H1 H' ∧ ys = (xs.take i).filter (fun x => !okv x) ∧ ∃ x, σ = [x]) ⟨same_new hD _, rfl, _, rfl⟩ ?_ ?_ ?_
    · rintro i ys σ H' _ ⟨s, _⟩
      exact SqL.of (s _ _ hp)
    · rintro i x ys σ H' hi hD' ⟨s, rfl, y, rfl⟩
      have li := (List.getElem?_eq_some_iff.mp hi).1
      have ll : ((xs.take i).filter (fun x => !okv x)).length ≤ 7 := Nat.le_trans (List.length_filter_le _ _) (by rw [List.length_take]; omega)
      have et : xs.take (i + 1) = xs.take i ++ [x] := by rw [List.take_add_one, hi]; rfl
      simp only [t__law_weights_0_eq,t__law_weights_1_eq,↓tVar_c0,↓tVar_c1,↓rI0_c,↓ex_bl,↓ex_int,↓ex_ref,↓ex_l1i,↓ex_l1r,↓tComp_eq,↓rAll,↓rSum,capS,↓tNoTest,↓tChain,↓rAppend,Option.bind_some,Option.bind_none,Option.join_some,Option.map_some,List.getElem?_cons_zero,List.getElem?_cons_succ,V.str.injEq,V.ty.injEq,↓tFor_eq,↓iList,↓tSeq,↓tNext,↓gName,↓tCB,↓tCons,↓tNil,tVar,↓tC,↓tOp,↓tTest,↓tB,↓tOr,↓tNot,↓tAndV,↓tIfS,↓tRet,↓tCall,rI0,↓rEq,↓rNe,L2.start,truV_int,truV_bl,scal_int,scal_bl,List.map_cons,List.map_nil,List.length_cons,List.length_nil,List.replicate,List.cons_append,List.nil_append,List.append_nil,Option.some.injEq,exists_eq_left',exists_eq_left,exists_and_left,List.cons.injEq,V.int.injEq,V.ref.injEq,V.bl.injEq,and_true,true_and,List.set_cons_zero,List.set_cons_succ,Nat.reduceAdd,Nat.reduceSub,Int.reduceToNat,Int.reducePow,Int.reduceNeg,Int.reduceMul,Int.reduceAdd,Int.reduceSub,decide_eq_true_eq,Bool.not_eq_true',decide_eq_false_iff_not,exists_const,and_assoc,exists_eq,exists_eq',if_true,if_false,Bool.false_eq_true,Bool.true_eq_false,reduceCtorEq,not_true_eq_false,not_false_eq_true]
      rcases hx x (mem_at hi) with ⟨n, rfl, _⟩ | rfl
      · refine ⟨_, rfl, .inl ⟨⟨n, rfl⟩, true, rfl, ?_⟩⟩
        rw [if_neg Bool.noConfusion]
        refine ⟨n, rfl, ite2 (fun c => ?_) (fun c => ?_)⟩
        · refine ⟨_, hD', Nat.lt_of_le_of_lt ll (by decide), _, upd_same, s.put hD, ?_⟩
          rw [et, List.filter_append, List.filter_cons_of_pos (by simp [okv]; omega)]
          rfl
        · refine ⟨_, hD', s, ?_⟩
          rw [et, List.filter_append, List.filter_cons_of_neg (by simp [okv]; omega), List.filter_nil, List.append_nil]
      · refine ⟨_, rfl, .inr ⟨⟨_, rfl⟩, false, rfl, ?_⟩⟩
        rw [if_pos rfl]
        refine ⟨_, hD', Nat.lt_of_le_of_lt ll (by decide), _, upd_same, s.put hD, ?_⟩
        rw [et, List.filter_append, List.filter_cons_of_pos (by rfl)]
        rfl
    · rintro ys σ H' hD' ⟨s, rfl, y, rfl⟩
      rw [List.take_length] at hD'
      have q1 := q H' s
      unfold gw at q1
      rw [decide_eq_true em, Bool.true_and] at q1
      refine ⟨D, rfl, _, .inl (SqL.of hD'), ite2 (fun c => ?_) (fun c => ?_)⟩
      · have c' : xs.all okv = true := by
          rw [List.all_eq_true]
          intro x h
          have e : xs.filter (fun x => !okv x) = [] := List.eq_nil_of_length_eq_zero (by omega)
          have := List.filter_eq_nil_iff.mp e x h
          simpa using this
        rw [c', Bool.true_and] at q1
        exact ⟨xs.map iv, SqL.of (by rw [← okv_ints c']; exact s _ _ hp), q1⟩
      · have c' : xs.all okv = false := by
          rw [← Bool.not_eq_true, List.all_eq_true]
          intro h
          refine c ?_
          rw [List.filter_eq_nil_iff.mpr fun x hx => by simp [h x hx]]
          rfl
        rw [c', Bool.false_and] at q1
        exact q1
theorem sc__law_weights : FnScope ["_law_thing", "_law_many"] ["_law_thing", "_law_many"] (defScope s__law_weights) := ⟨rfl, rfl, rfl, by decide +kernel, rfl, by decide +kernel, by decide +kernel⟩
theorem ok__law_weights (T : Txt K mg a) : FnOk P w K mg base CX0 2 a.f__law_weights a.d__law_weights ["_law_thing", "_law_many"] (spWeights K) := by
  have G__law_whole := ok__law_whole (P := P) (w := w) (base := base) T
  refine T.F__law_weights.ok sc__law_weights (fun vs H Q E h => ?_) (fun cdv A outer s H vs Q E hr h => ?_)
  · obtain ⟨p, xs, m, rfl, hp, hx, hl, q⟩ := h
    rfl
  obtain ⟨p, xs, m, rfl, hp, hx, hl, q⟩ := h
  exact ⟨t__law_weights K, (pss_cons (ps_cut (ps_if (PW.pt (pw_or (pt_not (pt_val (pe_callB call_isinst rfl T.z_isinstance PyProof.Rows.boot_isinstance (pa_cons (pv 0) (pa_cons (pe_bltn rfl T.z_list boot_list rfl) pa_nil))))) (pw_or1 (pt_cmpR op_ne (pe_callB call_len_seq rfl T.z_len PySem.boot_len (pa_cons (pv 0) pa_nil)) (pv 1) (nomark _))))) (pss_one (ps_ret pe_bl)) pss_nil))
  (pss_one (ps_ret (pe_and (pe_cmpR op_eq (pe_callB call_len_seq rfl T.z_len PySem.boot_len (pa_cons (pe_comp (sc := defScope s__law_weights) (N := ["_law_thing", "_law_many"]) (Nc := ["_law_one"]) (cap := [none]) rfl rfl rfl (.of (by decide +kernel)) (pi_list (pv 0)) (fun _ _ _ _ => (pg_name (i := 0) (show List.Nodup (["_law_one"] : List Str) from by decide) rfl (Or.inl rfl))) (fun _ _ _ _ => (pts_one (PW.pt (pw_or (pt_not (pt_val (pe_call G__law_whole (hr.mono (by decide)) rfl T.m__law_whole T.F__law_whole.kp T.b__law_whole .nil pass0 (pa_cons (pv 0) pa_nil)))) (pw_or1 (pt_cmpR op_lt (pv 0) pe_int (nomark _))))))) (fun _ _ _ _ => (pv 0))) pa_nil)) pe_int (nomark _)) (pe_one (pe_cmpR op_gt (pe_callB (call_sum rfl) rfl T.z_sum PyProof.Rows.boot_sum (pa_cons (pv 0) pa_nil)) pe_int (nomark _))))))),
    rd__law_weights hp hx hl q⟩
theorem rep_trues (n : Nat) : (List.replicate n true).all id = true := by
  rw [List.all_replicate]
  simp
theorem rep_snoc (n : Nat) : (List.replicate (n + 1) true).map V.bl = (List.replicate n true).map V.bl ++ [.bl true] := by
  rw [List.replicate_succ', List.map_append]
  rfl
def t_is_row (K : PySem.W.Frag) : TS :=
  (tRet (tAndV (tCB (rIsi K) (tCons (tVar 0) (tCons (tC (.ty "list")) tNil))) (tAndV (tChain (rI0 fun i j => .bl (decide (i ≤ j))) (rI0 fun i j => .bl (decide (i ≤ j))) (tC (.int 1)) (tCB (fun xs H Q => ∃ p ys, xs = [.ref p] ∧ (SqL K H p ys ∨ SqT K H p ys) ∧ Q (.int ys.length) H) (tCons (tVar 0) tNil)) (tC (.int 12))) (tCB (rAll K) (tCons (tComp (iList K (tVar 0)) (gName 0) tNoTest (tCall spWholeX [] E0 (tCons (tVar 0) tNil)) [none]) tNil)))))
theorem rd_is_row {p : Addr} {ns : List Int} (hp : H p = some (.lst (ns.map V.int))) (l1 : 1 ≤ ns.length) (l6 : ns.length ≤ 6) (q : ∀ H', Same H H' → Q (.bl true) H') :
    t_is_row K { nx := fun _ H' => Q .non H', rt := Q } (L2.start ["thing"] [.ref p]) H := by
  unfold t_is_row
  simp only [↓tVar_c0,↓tVar_c1,↓rI0_c,↓rIxL_c,↓ex_bl,↓ex_int,↓ex_ref,↓ex_l1i,↓ex_l1r,↓tComp_eq,↓rAll,capS,↓tNoTest,↓tChain,↓rAppend,Option.bind_some,Option.bind_none,Option.join_some,Option.map_some,List.getElem?_cons_zero,List.getElem?_cons_succ,V.str.injEq,V.ty.injEq,↓tFor_eq,↓iList,↓tSeq,↓tNext,↓gName,↓tCB,↓tCons,↓tNil,tVar,↓tC,↓tOp,↓tTest,↓tB,↓tOr,↓tNot,↓tAndV,↓tIfS,↓tRet,↓tCall,rI0,↓rEq,rIxL,L2.start,truV_int,truV_bl,scal_int,scal_bl,List.map_cons,List.map_nil,List.length_cons,List.length_nil,List.replicate,List.cons_append,List.nil_append,List.append_nil,Option.some.injEq,exists_eq_left',exists_eq_left,exists_and_left,List.cons.injEq,V.int.injEq,V.ref.injEq,V.bl.injEq,and_true,true_and,List.set_cons_zero,List.set_cons_succ,Nat.reduceAdd,Nat.reduceSub,Int.reduceToNat,Int.reducePow,Int.reduceNeg,Int.reduceMul,Int.reduceAdd,Int.reduceSub,decide_eq_true_eq,Bool.not_eq_true',decide_eq_false_iff_not,exists_const,and_assoc,exists_eq,exists_eq',if_true,if_false,Bool.false_eq_true,Bool.true_eq_false,reduceCtorEq,not_true_eq_false,not_false_eq_true]
  refine isi_lst_lst hp ⟨true, rfl, iteT ?_⟩
  refine ⟨_, .inl (SqL.of hp), ?_⟩
  rw [List.length_map, if_pos (by omega), if_pos (by omega)]
  refine ⟨⟨_, SqL.of hp⟩, fun D hD => ?_⟩
  refine comp_listF (K := K) (xs := ns.map V.int) (fun i ys σ H' => Same H H' ∧ ys = (List.replicate i true).map V.bl ∧ ∃ x, σ = [x]) ⟨same_new hD _, rfl, _, rfl⟩ ?_ ?_ ?_
  · rintro i ys σ H' _ ⟨s, _⟩
    exact SqL.of (s _ _ hp)
  · rintro i x ys σ H' hi hD' ⟨s, rfl, y, rfl⟩
    have li := (List.getElem?_eq_some_iff.mp hi).1
    rw [List.length_map] at li
    obtain ⟨n, en, rfl⟩ := map_at hi
    simp only [↓tVar_c0,↓tVar_c1,↓rI0_c,↓rIxL_c,↓ex_bl,↓ex_int,↓ex_ref,↓ex_l1i,↓ex_l1r,↓tComp_eq,↓rAll,capS,↓tNoTest,↓tChain,↓rAppend,Option.bind_some,Option.bind_none,Option.join_some,Option.map_some,List.getElem?_cons_zero,List.getElem?_cons_succ,V.str.injEq,V.ty.injEq,↓tFor_eq,↓iList,↓tSeq,↓tNext,↓gName,↓tCB,↓tCons,↓tNil,tVar,↓tC,↓tOp,↓tTest,↓tB,↓tOr,↓tNot,↓tAndV,↓tIfS,↓tRet,↓tCall,rI0,↓rEq,rIxL,L2.start,truV_int,truV_bl,scal_int,scal_bl,List.map_cons,List.map_nil,List.length_cons,List.length_nil,List.replicate,List.cons_append,List.nil_append,List.append_nil,Option.some.injEq,exists_eq_left',exists_eq_left,exists_and_left,List.cons.injEq,V.int.injEq,V.ref.injEq,V.bl.injEq,and_true,true_and,List.set_cons_zero,List.set_cons_succ,Nat.reduceAdd,Nat.reduceSub,Int.reduceToNat,Int.reducePow,Int.reduceNeg,Int.reduceMul,Int.reduceAdd,Int.reduceSub,decide_eq_true_eq,Bool.not_eq_true',decide_eq_false_iff_not,exists_const,and_assoc,exists_eq,exists_eq',if_true,if_false,Bool.false_eq_true,Bool.true_eq_false,reduceCtorEq,not_true_eq_false,not_false_eq_true]
    exact ⟨_, rfl, .inl ⟨⟨n, rfl⟩, _, hD', by simp [sizeLine]; omega, _, upd_same, s.put hD, (rep_snoc i).symm⟩⟩
  · rintro ys σ H' hD' ⟨s, rfl, y, rfl⟩
    exact ⟨D, rfl, _, SqL.of hD', by rw [rep_trues]; exact q H' s⟩
theorem sc_is_row : FnScope ["thing"] ["thing"] (defScope s_is_row) := ⟨rfl, rfl, rfl, by decide +kernel, rfl, by decide +kernel, by decide +kernel⟩
theorem ok_is_row (T : Txt K mg a) : FnOk P w K mg base CX0 2 a.f_is_row a.d_is_row ["thing"] (spRow K) := by
  have G_is_whole := ok_is_whole (P := P) (w := w) (base := base) T
  refine T.F_is_row.ok sc_is_row (fun vs H Q E h => ?_) (fun cdv A outer s H vs Q E hr h => ?_)
  · obtain ⟨p, ns, rfl, hp, l1, l6, q⟩ := h
    rfl
  obtain ⟨p, ns, rfl, hp, l1, l6, q⟩ := h
  exact ⟨t_is_row K, (pss_one (ps_ret (pe_and (pe_callB call_isinst rfl T.z_isinstance PyProof.Rows.boot_isinstance (pa_cons (pv 0) (pa_cons (pe_bltn rfl T.z_list boot_list rfl) pa_nil))) (pe_and (pe_chain op_le op_le pe_int (pe_callB call_len_seq rfl T.z_len PySem.boot_len (pa_cons (pv 0) pa_nil)) (pe_glob rfl T.m_MOST ⟨_, rfl⟩)) (pe_one (pe_callB (call_all rfl) rfl T.z_all PyProof.Rows.boot_all (pa_cons (pe_comp (sc := defScope s_is_row) (N := ["thing"]) (Nc := ["number"]) (cap := [none]) rfl rfl rfl (.of (by decide +kernel)) (pi_list (pv 0)) (fun _ _ _ _ => (pg_name (i := 0) (show List.Nodup (["number"] : List Str) from by decide) rfl (Or.inl rfl))) (fun _ _ _ _ => pts_nil) (fun _ _ _ _ => (pe_call G_is_whole (hr.mono (by decide)) rfl T.m_is_whole T.F_is_whole.kp T.b_is_whole .nil pass0 (pa_cons (pv 0) pa_nil)))) pa_nil))))))),
    rd_is_row hp l1 l6 q⟩
def t_is_table_0 (K : PySem.W.Frag) : TS :=
  (tRet (tAndV (tCB (rAll K) (tCons (tComp (iList K (tVar 0)) (gName 0) tNoTest (tCall (spRow K) [] E0 (tCons (tVar 0) tNil)) [none]) tNil)) (tCB (rAll K) (tCons (tComp (iList K (tVar 0)) (gName 0) tNoTest (tOp rEq (tCB (fun xs H Q => ∃ p ys, xs = [.ref p] ∧ (SqL K H p ys ∨ SqT K H p ys) ∧ Q (.int ys.length) H) (tCons (tVar 0) tNil)) (tCB (fun xs H Q => ∃ p ys, xs = [.ref p] ∧ (SqL K H p ys ∨ SqT K H p ys) ∧ Q (.int ys.length) H) (tCons (tOp (rIxL K) (tVar 1) (tC (.int 0))) tNil))) [none, some 0]) tNil))))
theorem t_is_table_0_eq (K : PySem.W.Frag) (D : Ends) (σ : St) (H : Hp) : t_is_table_0 K D σ H = (tRet (tAndV (tCB (rAll K) (tCons (tComp (iList K (tVar 0)) (gName 0) tNoTest (tCall (spRow K) [] E0 (tCons (tVar 0) tNil)) [none]) tNil)) (tCB (rAll K) (tCons (tComp (iList K (tVar 0)) (gName 0) tNoTest (tOp rEq (tCB (fun xs H Q => ∃ p ys, xs = [.ref p] ∧ (SqL K H p ys ∨ SqT K H p ys) ∧ Q (.int ys.length) H) (tCons (tVar 0) tNil)) (tCB (fun xs H Q => ∃ p ys, xs = [.ref p] ∧ (SqL K H p ys ∨ SqT K H p ys) ∧ Q (.int ys.length) H) (tCons (tOp (rIxL K) (tVar 1) (tC (.int 0))) tNil))) [none, some 0]) tNil)))) D σ H := rfl
def t_is_table_1 (K : PySem.W.Frag) : TS :=
  (tIfS (tOr (tNot (tB (tCB (rIsi K) (tCons (tVar 0) (tCons (tC (.ty "list")) tNil))))) (tNot (tTest (tChain (rI0 fun i j => .bl (decide (i ≤ j))) (rI0 fun i j => .bl (decide (i ≤ j))) (tC (.int 1)) (tCB (fun xs H Q => ∃ p ys, xs = [.ref p] ∧ (SqL K H p ys ∨ SqT K H p ys) ∧ Q (.int ys.length) H) (tCons (tVar 0) tNil)) (tC (.int 12)))))) (tRet (tC (.bl false))) tNext)
theorem t_is_table_1_eq (K : PySem.W.Frag) (D : Ends) (σ : St) (H : Hp) : t_is_table_1 K D σ H = (tIfS (tOr (tNot (tB (tCB (rIsi K) (tCons (tVar 0) (tCons (tC (.ty "list")) tNil))))) (tNot (tTest (tChain (rI0 fun i j => .bl (decide (i ≤ j))) (rI0 fun i j => .bl (decide (i ≤ j))) (tC (.int 1)) (tCB (fun xs H Q => ∃ p ys, xs = [.ref p] ∧ (SqL K H p ys ∨ SqT K H p ys) ∧ Q (.int ys.length) H) (tCons (tVar 0) tNil)) (tC (.int 12)))))) (tRet (tC (.bl false))) tNext) D σ H := rfl
def t_is_table (K : PySem.W.Frag) : TS :=
  (tSeq (tCut (t_is_table_1 K))
  (t_is_table_0 K))
theorem rd_is_table {t : Addr} {rs : List Addr} {rows : List (List Int)} {w : Nat} (B : Tb H t rs rows w) (q : ∀ H', Same H H' → Q (.bl true) H') :
    t_is_table K { nx := fun _ H' => Q .non H', rt := Q } (L2.start ["thing"] [.ref t]) H := by
  unfold t_is_table
  have l1 := B.l1
  have l6 := B.l6
  rw [← B.len] at l1 l6
  simp only [t_is_table_0_eq,t_is_table_1_eq,↓tVar_c0,↓tVar_c1,↓rI0_c,↓rIxL_c,↓ex_bl,↓ex_int,↓ex_ref,↓ex_l1i,↓ex_l1r,↓tComp_eq,↓rAll,capS,↓tNoTest,↓tChain,↓rAppend,Option.bind_some,Option.bind_none,Option.join_some,Option.map_some,List.getElem?_cons_zero,List.getElem?_cons_succ,V.str.injEq,V.ty.injEq,↓tFor_eq,↓iList,↓tSeq,↓tNext,↓gName,↓tCB,↓tCons,↓tNil,tVar,↓tC,↓tOp,↓tTest,↓tB,↓tOr,↓tNot,↓tAndV,↓tIfS,↓tRet,↓tCall,rI0,↓rEq,rIxL,L2.start,truV_int,truV_bl,scal_int,scal_bl,List.map_cons,List.map_nil,List.length_cons,List.length_nil,List.replicate,List.cons_append,List.nil_append,List.append_nil,Option.some.injEq,exists_eq_left',exists_eq_left,exists_and_left,List.cons.injEq,V.int.injEq,V.ref.injEq,V.bl.injEq,and_true,true_and,List.set_cons_zero,List.set_cons_succ,Nat.reduceAdd,Nat.reduceSub,Int.reduceToNat,Int.reducePow,Int.reduceNeg,Int.reduceMul,Int.reduceAdd,Int.reduceSub,decide_eq_true_eq,Bool.not_eq_true',decide_eq_false_iff_not,exists_const,and_assoc,exists_eq,exists_eq',if_true,if_false,Bool.false_eq_true,Bool.true_eq_false,reduceCtorEq,not_true_eq_false,not_false_eq_true]
  refine ⟨fun σ H' => H' = H ∧ σ = [some (.ref t)], ?_, ?_⟩
  · simp only [t_is_table_0_eq,t_is_table_1_eq,↓tVar_c0,↓tVar_c1,↓rI0_c,↓rIxL_c,↓ex_bl,↓ex_int,↓ex_ref,↓ex_l1i,↓ex_l1r,↓tComp_eq,↓rAll,capS,↓tNoTest,↓tChain,↓rAppend,Option.bind_some,Option.bind_none,Option.join_some,Option.map_some,List.getElem?_cons_zero,List.getElem?_cons_succ,V.str.injEq,V.ty.injEq,↓tFor_eq,↓iList,↓tSeq,↓tNext,↓gName,↓tCB,↓tCons,↓tNil,tVar,↓tC,↓tOp,↓tTest,↓tB,↓tOr,↓tNot,↓tAndV,↓tIfS,↓tRet,↓tCall,rI0,↓rEq,rIxL,L2.start,truV_int,truV_bl,scal_int,scal_bl,List.map_cons,List.map_nil,List.length_cons,List.length_nil,List.replicate,List.cons_append,List.nil_append,List.append_nil,Option.some.injEq,exists_eq_left',exists_eq_left,exists_and_left,List.cons.injEq,V.int.injEq,V.ref.injEq,V.bl.injEq,and_true,true_and,List.set_cons_zero,List.set_cons_succ,Nat.reduceAdd,Nat.reduceSub,Int.reduceToNat,Int.reducePow,Int.reduceNeg,Int.reduceMul,Int.reduceAdd,Int.reduceSub,decide_eq_true_eq,Bool.not_eq_true',decide_eq_false_iff_not,exists_const,and_assoc,exists_eq,exists_eq',if_true,if_false,Bool.false_eq_true,Bool.true_eq_false,reduceCtorEq,not_true_eq_false,not_false_eq_true]
    refine isi_lst_lst B.ht ⟨true, rfl, ?_⟩
    simp only [t_is_table_0_eq,t_is_table_1_eq,↓tVar_c0,↓tVar_c1,↓rI0_c,↓rIxL_c,↓ex_bl,↓ex_int,↓ex_ref,↓ex_l1i,↓ex_l1r,↓tComp_eq,↓rAll,capS,↓tNoTest,↓tChain,↓rAppend,Option.bind_some,Option.bind_none,Option.join_some,Option.map_some,List.getElem?_cons_zero,List.getElem?_cons_succ,V.str.injEq,V.ty.injEq,↓tFor_eq,↓iList,↓tSeq,↓tNext,↓gName,↓tCB,↓tCons,↓tNil,tVar,↓tC,↓tOp,↓tTest,↓tB,↓tOr,↓tNot,↓tAndV,↓tIfS,↓tRet,↓tCall,rI0,↓rEq,rIxL,L2.start,truV_int,truV_bl,scal_int,scal_bl,List.map_cons,List.map_nil,List.length_cons,List.length_nil,List.replicate,List.cons_append,List.nil_append,List.append_nil,Option.some.injEq,exists_eq_left',exists_eq_left,exists_and_left,List.cons.injEq,V.int.injEq,V.ref.injEq,V.bl.injEq,and_true,true_and,List.set_cons_zero,List.set_cons_succ,Nat.reduceAdd,Nat.reduceSub,Int.reduceToNat,Int.reducePow,Int.reduceNeg,Int.reduceMul,Int.reduceAdd,Int.reduceSub,decide_eq_true_eq,Bool.not_eq_true',decide_eq_false_iff_not,exists_const,and_assoc,exists_eq,exists_eq',if_true,if_false,Bool.false_eq_true,Bool.true_eq_false,reduceCtorEq,not_true_eq_false,not_false_eq_true]
    refine ⟨_, .inl (SqL.of B.ht), ?_⟩
    rw [List.length_map, if_pos (by omega), if_neg (by omega)]
    trivial
  · rintro σ H1 ⟨rfl, rfl⟩
    simp only [t_is_table_0_eq,t_is_table_1_eq,↓tVar_c0,↓tVar_c1,↓rI0_c,↓rIxL_c,↓ex_bl,↓ex_int,↓ex_ref,↓ex_l1i,↓ex_l1r,↓tComp_eq,↓rAll,capS,↓tNoTest,↓tChain,↓rAppend,Option.bind_some,Option.bind_none,Option.join_some,Option.map_some,List.getElem?_cons_zero,List.getElem?_cons_succ,V.str.injEq,V.ty.injEq,↓tFor_eq,↓iList,↓tSeq,↓tNext,↓gName,↓tCB,↓tCons,↓tNil,tVar,↓tC,↓tOp,↓tTest,↓tB,↓tOr,↓tNot,↓tAndV,↓tIfS,↓tRet,↓tCall,rI0,↓rEq,rIxL,L2.start,truV_int,truV_bl,scal_int,scal_bl,List.map_cons,List.map_nil,List.length_cons,List.length_nil,List.replicate,List.cons_append,List.nil_append,List.append_nil,Option.some.injEq,exists_eq_left',exists_eq_left,exists_and_left,List.cons.injEq,V.int.injEq,V.ref.injEq,V.bl.injEq,and_true,true_and,List.set_cons_zero,List.set_cons_succ,Nat.reduceAdd,Nat.reduceSub,Int.reduceToNat,Int.reducePow,Int.reduceNeg,Int.reduceMul,Int.reduceAdd,Int.reduceSub,decide_eq_true_eq,Bool.not_eq_true',decide_eq_false_iff_not,exists_const,and_assoc,exists_eq,exists_eq',if_true,if_false,Bool.false_eq_true,Bool.true_eq_false,reduceCtorEq,not_true_eq_false,not_false_eq_true]
    refine ⟨⟨_, SqL.of B.ht⟩, fun D hD => ?_⟩
    refine comp_listF (K := K) (xs := rs.map V.ref) (fun i ys σ H' => Same H1 H' ∧ ys = (List.replicate i true).map V.bl ∧ ∃ x, σ = [x]) ⟨same_new hD _, rfl, _, rfl⟩ ?_ ?_ ?_
    · rintro i ys σ H' _ ⟨s, _⟩
      exact SqL.of (s _ _ B.ht)
    · rintro i x ys σ H' hi hD' ⟨s, rfl, y, rfl⟩
      have li := (List.getElem?_eq_some_iff.mp hi).1
      rw [List.length_map] at li
      obtain ⟨r, er, rfl⟩ := map_at hi
      obtain ⟨row, e1, e2, e3⟩ := B.at er
      have w1 := B.w1
      have w6 := B.w6
      simp only [t_is_table_0_eq,t_is_table_1_eq,↓tVar_c0,↓tVar_c1,↓rI0_c,↓rIxL_c,↓ex_bl,↓ex_int,↓ex_ref,↓ex_l1i,↓ex_l1r,↓tComp_eq,↓rAll,capS,↓tNoTest,↓tChain,↓rAppend,Option.bind_some,Option.bind_none,Option.join_some,Option.map_some,List.getElem?_cons_zero,List.getElem?_cons_succ,V.str.injEq,V.ty.injEq,↓tFor_eq,↓iList,↓tSeq,↓tNext,↓gName,↓tCB,↓tCons,↓tNil,tVar,↓tC,↓tOp,↓tTest,↓tB,↓tOr,↓tNot,↓tAndV,↓tIfS,↓tRet,↓tCall,rI0,↓rEq,rIxL,L2.start,truV_int,truV_bl,scal_int,scal_bl,List.map_cons,List.map_nil,List.length_cons,List.length_nil,List.replicate,List.cons_append,List.nil_append,List.append_nil,Option.some.injEq,exists_eq_left',exists_eq_left,exists_and_left,List.cons.injEq,V.int.injEq,V.ref.injEq,V.bl.injEq,and_true,true_and,List.set_cons_zero,List.set_cons_succ,Nat.reduceAdd,Nat.reduceSub,Int.reduceToNat,Int.reducePow,Int.reduceNeg,Int.reduceMul,Int.reduceAdd,Int.reduceSub,decide_eq_true_eq,Bool.not_eq_true',decide_eq_false_iff_not,exists_const,and_assoc,exists_eq,exists_eq',if_true,if_false,Bool.false_eq_true,Bool.true_eq_false,reduceCtorEq,not_true_eq_false,not_false_eq_true]
      refine ⟨r, row, rfl, s _ _ e2, by omega, by omega, fun H2 s2 => ?_⟩
      have hD2 := s2 _ _ hD'
      exact ⟨_, hD2, by simp [sizeLine]; omega, _, upd_same, (s.trans s2).put hD, (rep_snoc i).symm⟩
    · rintro ys σ H' hD' ⟨s, rfl, y, rfl⟩
      have B2 := B.same s
      refine ⟨D, rfl, _, SqL.of hD', ?_⟩
      rw [rep_trues]
      refine iteT ⟨⟨_, SqL.of B2.ht⟩, fun D2 hD2 => ?_⟩
      obtain ⟨r0, row0, a0, h0, w0⟩ := B2.first
      refine comp_listF (K := K) (xs := rs.map V.ref) (fun i ys σ H2 => Same H' H2 ∧ ys = (List.replicate i true).map V.bl ∧ ∃ x, σ = [x, some (.ref t)]) ⟨same_new hD2 _, rfl, _, rfl⟩ ?_ ?_ ?_
      · rintro i ys σ H2 _ ⟨s2, _⟩
        exact SqL.of (s2 _ _ B2.ht)
      · rintro i x ys σ H2 hi hD3 ⟨s2, rfl, y, rfl⟩
        have li := (List.getElem?_eq_some_iff.mp hi).1
        rw [List.length_map] at li
        obtain ⟨r, er, rfl⟩ := map_at hi
        obtain ⟨row, e1, e2, e3⟩ := B2.at er
        simp only [t_is_table_0_eq,t_is_table_1_eq,↓tVar_c0,↓tVar_c1,↓rI0_c,↓rIxL_c,↓ex_bl,↓ex_int,↓ex_ref,↓ex_l1i,↓ex_l1r,↓tComp_eq,↓rAll,capS,↓tNoTest,↓tChain,↓rAppend,Option.bind_some,Option.bind_none,Option.join_some,Option.map_some,List.getElem?_cons_zero,List.getElem?_cons_succ,V.str.injEq,V.ty.injEq,↓tFor_eq,↓iList,↓tSeq,↓tNext,↓gName,↓tCB,↓tCons,↓tNil,tVar,↓tC,↓tOp,↓tTest,↓tB,↓tOr,↓tNot,↓tAndV,↓tIfS,↓tRet,↓tCall,rI0,↓rEq,rIxL,L2.start,truV_int,truV_bl,scal_int,scal_bl,List.map_cons,List.map_nil,List.length_cons,List.length_nil,List.replicate,List.cons_append,List.nil_append,List.append_nil,Option.some.injEq,exists_eq_left',exists_eq_left,exists_and_left,List.cons.injEq,V.int.injEq,V.ref.injEq,V.bl.injEq,and_true,true_and,List.set_cons_zero,List.set_cons_succ,Nat.reduceAdd,Nat.reduceSub,Int.reduceToNat,Int.reducePow,Int.reduceNeg,Int.reduceMul,Int.reduceAdd,Int.reduceSub,decide_eq_true_eq,Bool.not_eq_true',decide_eq_false_iff_not,exists_const,and_assoc,exists_eq,exists_eq',if_true,if_false,Bool.false_eq_true,Bool.true_eq_false,reduceCtorEq,not_true_eq_false,not_false_eq_true]
        refine ⟨_, .inl (SqL.of (s2 _ _ e2)), _, SqL.of (s2 _ _ B2.ht), _, a0, _, rfl, _, .inl (SqL.of (s2 _ _ h0)), ?_⟩
        rw [List.length_map, List.length_map, e3, w0]
        rw [decide_eq_true rfl]
        exact ⟨_, hD3, by simp [sizeLine]; omega, _, upd_same, s2.put hD2, (rep_snoc i).symm⟩
      · rintro ys σ H2 hD3 ⟨s2, rfl, y, rfl⟩
        exact ⟨D2, rfl, _, SqL.of hD3, by rw [rep_trues]; exact q H2 (s.trans s2)⟩
theorem sc_is_table : FnScope ["thing"] ["thing"] (defScope s_is_table) := ⟨rfl, rfl, rfl, by decide +kernel, rfl, by decide +kernel, by decide +kernel⟩
theorem ok_is_table (T : Txt K mg a) : FnOk P w K mg base CX0 3 a.f_is_table a.d_is_table ["thing"] (spTab K) := by
  have G_is_row := ok_is_row (P := P) (w := w) (base := base) T
  refine T.F_is_table.ok sc_is_table (fun vs H Q E h => ?_) (fun cdv A outer s H vs Q E hr h => ?_)
  · obtain ⟨t, rs, rows, w, rfl, B, q⟩ := h
    rfl
  obtain ⟨t, rs, rows, w, rfl, B, q⟩ := h
  exact ⟨t_is_table K, (pss_cons (ps_cut (ps_if (PW.pt (pw_or (pt_not (pt_val (pe_callB call_isinst rfl T.z_isinstance PyProof.Rows.boot_isinstance (pa_cons (pv 0) (pa_cons (pe_bltn rfl T.z_list boot_list rfl) pa_nil))))) (pw_or1 (pt_not (pt_chain op_le op_le pe_int (pe_callB call_len_seq rfl T.z_len PySem.boot_len (pa_cons (pv 0) pa_nil)) (pe_glob rfl T.m_MOST ⟨_, rfl⟩)))))) (pss_one (ps_ret pe_bl)) pss_nil))
  (pss_one (ps_ret (pe_and (pe_callB (call_all rfl) rfl T.z_all PyProof.Rows.boot_all (pa_cons (pe_comp (sc := defScope s_is_table) (N := ["thing"]) (Nc := ["row"]) (cap := [none]) rfl rfl rfl (.of (by decide +kernel)) (pi_list (pv 0)) (fun _ _ _ _ => (pg_name (i := 0) (show List.Nodup (["row"] : List Str) from by decide) rfl (Or.inl rfl))) (fun _ _ _ _ => pts_nil) (fun _ _ _ _ => (pe_call G_is_row (hr.mono (by decide)) rfl T.m_is_row T.F_is_row.kp T.b_is_row .nil pass0 (pa_cons (pv 0) pa_nil)))) pa_nil)) (pe_one (pe_callB (call_all rfl) rfl T.z_all PyProof.Rows.boot_all (pa_cons (pe_comp (sc := defScope s_is_table) (N := ["thing"]) (Nc := ["row", "thing"]) (cap := [none, some 0]) rfl rfl rfl (.of (by decide +kernel)) (pi_list (pv 0)) (fun _ _ _ _ => (pg_name (i := 0) (show List.Nodup (["row", "thing"] : List Str) from by decide) rfl (Or.inl rfl))) (fun _ _ _ _ => pts_nil) (fun _ _ _ _ => (pe_cmpR op_eq (pe_callB call_len_seq rfl T.z_len PySem.boot_len (pa_cons (pv 0) pa_nil)) (pe_callB call_len_seq rfl T.z_len PySem.boot_len (pa_cons (pe_ix ix_list (pv 1) pe_int (fun _ _ => rfl)) pa_nil)) (nomark _)))) pa_nil))))))),
    rd_is_table B q⟩
def t_look_table (K : PySem.W.Frag) : TS :=
  (tIfS (tNot (tB (tCall (spTab K) [] E0 (tCons (tVar 0) tNil)))) tNever tNext)
theorem rd_look_table {t : Addr} {rs : List Addr} {rows : List (List Int)} {w : Nat} (B : Tb H t rs rows w) (q : ∀ H', Same H H' → Q .non H') :
    t_look_table K { nx := fun _ H' => Q .non H', rt := Q } (L2.start ["table"] [.ref t]) H := by
  unfold t_look_table
  simp only [↓tVar_c0,↓tVar_c1,↓rI_c,↓ex_bl,↓ex_int,↓ex_ref,↓ex_l1i,↓ex_l1r,↓tComp_eq,↓iZip,↓rSum,capS,↓tNoTest,↓rAppend,Option.bind_some,Option.bind_none,Option.join_some,Option.map_some,List.getElem?_cons_zero,List.getElem?_cons_succ,V.str.injEq,V.ty.injEq,↓tFor_eq,↓iList,↓tSeq,↓tNext,↓gName,↓gTup,↓gCons,↓gNil,↓tCB,↓tCons,↓tNil,tVar,↓tC,↓tOp,↓tB,↓tNot,↓tIfS,↓tRet,↓tCall,rI,L2.start,truV_int,truV_bl,scal_int,scal_bl,List.map_cons,List.map_nil,List.length_cons,List.length_nil,List.replicate,List.cons_append,List.nil_append,List.append_nil,Option.some.injEq,exists_eq_left',exists_eq_left,exists_and_left,List.cons.injEq,V.int.injEq,V.ref.injEq,V.bl.injEq,and_true,true_and,List.set_cons_zero,List.set_cons_succ,Nat.reduceAdd,Nat.reduceSub,Int.reduceToNat,Int.reducePow,Int.reduceNeg,Int.reduceMul,Int.reduceAdd,Int.reduceSub,decide_eq_true_eq,Bool.not_eq_true',decide_eq_false_iff_not,exists_const,and_assoc,exists_eq,exists_eq',if_true,if_false,Bool.false_eq_true,Bool.true_eq_false,reduceCtorEq,not_true_eq_false,not_false_eq_true]
  refine ⟨t, rs, rows, w, rfl, B, fun H' s => ⟨true, rfl, ?_⟩⟩
  rw [if_neg Bool.noConfusion]
  exact q H' s
theorem sc_look_table : FnScope ["table"] ["table"] (defScope s_look_table) := ⟨rfl, rfl, rfl, by decide +kernel, rfl, by decide +kernel, by decide +kernel⟩
theorem ok_look_table (T : Txt K mg a) : FnOk P w K mg base CX0 4 a.f_look_table a.d_look_table ["table"] (spLookTab K) := by
  have G_is_table := ok_is_table (P := P) (w := w) (base := base) T
  refine T.F_look_table.ok sc_look_table (fun vs H Q E h => ?_) (fun cdv A outer s H vs Q E hr h => ?_)
  · obtain ⟨t, rs, rows, w, rfl, B, q⟩ := h
    rfl
  obtain ⟨t, rs, rows, w, rfl, B, q⟩ := h
  exact ⟨t_look_table K, (pss_one (ps_if (pt_not (pt_val (pe_call G_is_table (hr.mono (by decide)) rfl T.m_is_table T.F_is_table.kp T.b_is_table .nil pass0 (pa_cons (pv 0) pa_nil)))) (pss_one ps_never) pss_nil)),
    rd_look_table B q⟩
theorem zip_succ {α β γ : Type} {f : α → β → γ} {xs : List α} {ys : List β} {i : Nat} {x : α} {y : β} (e1 : xs[i]? = some x) (e2 : ys[i]? = some y) : (List.zipWith f xs ys).take (i + 1) = (List.zipWith f xs ys).take i ++ [f x y] := by
  rw [List.take_add_one, List.getElem?_zipWith, e1, e2]
  rfl
theorem zip_all {α β γ : Type} {f : α → β → γ} {xs : List α} {ys : List β} {n : Nat} (h : n = min xs.length ys.length) : (List.zipWith f xs ys).take n = List.zipWith f xs ys := by
  rw [h, ← List.length_zipWith (f := f), List.take_length]
theorem get_getD {ns : List Int} {i : Nat} {x : Int} (h : ns[i]? = some x) : ns.getD i 0 = x := by
  rw [List.getD_eq_getElem?_getD, h]
  rfl
def t_row_sums (K : PySem.W.Frag) : TS :=
  (tRet (tComp (iList K (tVar 0)) (gName 0) tNoTest (tCB (rSum K) (tCons (tComp (iZip K (tCons (tVar 1) (tCons (tVar 0) tNil))) (gTup K 2 (gCons (gName 0) (gCons (gName 1) gNil))) tNoTest (tOp (rI IntMulOk fun i j => .int (i * j)) (tVar 0) (tVar 1)) [none, none]) tNil)) [none, some 1]))
theorem rd_row_sums {t l : Addr} {rs : List Addr} {rows : List (List Int)} {w : Nat} {ws : List Int} (B : Tb H t rs rows w) (hl : H l = some (.lst (ws.map V.int))) (lw : ws.length = w) (bw : ∀ x ∈ ws, -1 ≤ x ∧ x ≤ 10) (q : ∀ (r : Addr) (H' : Hp), Same H H' → H' r = some (.lst ((rsums ws rows).map V.int)) → Q (.ref r) H') :
    t_row_sums K { nx := fun _ H' => Q .non H', rt := Q } (L2.start ["table", "columns"] [.ref t, .ref l]) H := by
  unfold t_row_sums
  have l6 := B.l6
  have w6 := B.w6
  simp only [↓tVar_c0,↓tVar_c1,↓tVar_c2,↓rI_c,↓rIxL_c,↓ex_bl,↓ex_int,↓ex_ref,↓ex_l1i,↓ex_l1r,↓tComp_eq,↓iZip,↓rSum,capS,↓tNoTest,↓rAppend,Option.bind_some,Option.bind_none,Option.join_some,Option.map_some,List.getElem?_cons_zero,List.getElem?_cons_succ,V.str.injEq,V.ty.injEq,↓tFor_eq,↓iRng1,↓iList,↓tSeq,↓tNext,↓tAsg,↓gName,↓gTup,↓gCons,↓gNil,↓tCB,↓tCons,↓tNil,tVar,↓tC,↓tOp,↓tRet,rI,rIxL,L2.start,truV_int,truV_bl,scal_int,scal_bl,List.map_cons,List.map_nil,List.length_cons,List.length_nil,List.replicate,List.cons_append,List.nil_append,List.append_nil,Option.some.injEq,exists_eq_left',exists_eq_left,exists_and_left,List.cons.injEq,V.int.injEq,V.ref.injEq,V.bl.injEq,and_true,true_and,List.set_cons_zero,List.set_cons_succ,Nat.reduceAdd,Nat.reduceSub,Int.reduceToNat,Int.reducePow,Int.reduceNeg,Int.reduceMul,Int.reduceAdd,Int.reduceSub,decide_eq_true_eq,Bool.not_eq_true',decide_eq_false_iff_not,exists_const,and_assoc,exists_eq,exists_eq',if_true,if_false,Bool.false_eq_true,Bool.true_eq_false,reduceCtorEq,not_true_eq_false,not_false_eq_true]
  refine ⟨⟨_, SqL.of B.ht⟩, fun D hD => ?_⟩
  refine comp_listF (K := K) (xs := rs.map V.ref) (fun i ys σ H' => Same H H' ∧ ys = ((rows.take i).map (dot ws)).map V.int ∧ ∃ x, σ = [x, some (.ref l)]) ⟨same_new hD _, rfl, _, rfl⟩ ?_ ?_ ?_
  · rintro i ys σ H' _ ⟨s, _⟩
    exact SqL.of (s _ _ B.ht)
  · rintro i x ys σ H' hi hD' ⟨s, rfl, y, rfl⟩
    obtain ⟨r, er, rfl⟩ := map_at hi
    obtain ⟨row, e1, e2, e3⟩ := B.at er
    have li := (List.getElem?_eq_some_iff.mp e1).1
    have hl' := s _ _ hl
    have e2' := s _ _ e2
    simp only [↓tVar_c0,↓tVar_c1,↓tVar_c2,↓rI_c,↓rIxL_c,↓ex_bl,↓ex_int,↓ex_ref,↓ex_l1i,↓ex_l1r,↓tComp_eq,↓iZip,↓rSum,capS,↓tNoTest,↓rAppend,Option.bind_some,Option.bind_none,Option.join_some,Option.map_some,List.getElem?_cons_zero,List.getElem?_cons_succ,V.str.injEq,V.ty.injEq,↓tFor_eq,↓iRng1,↓iList,↓tSeq,↓tNext,↓tAsg,↓gName,↓gTup,↓gCons,↓gNil,↓tCB,↓tCons,↓tNil,tVar,↓tC,↓tOp,↓tRet,rI,rIxL,L2.start,truV_int,truV_bl,scal_int,scal_bl,List.map_cons,List.map_nil,List.length_cons,List.length_nil,List.replicate,List.cons_append,List.nil_append,List.append_nil,Option.some.injEq,exists_eq_left',exists_eq_left,exists_and_left,List.cons.injEq,V.int.injEq,V.ref.injEq,V.bl.injEq,and_true,true_and,List.set_cons_zero,List.set_cons_succ,Nat.reduceAdd,Nat.reduceSub,Int.reduceToNat,Int.reducePow,Int.reduceNeg,Int.reduceMul,Int.reduceAdd,Int.reduceSub,decide_eq_true_eq,Bool.not_eq_true',decide_eq_false_iff_not,exists_const,and_assoc,exists_eq,exists_eq',if_true,if_false,Bool.false_eq_true,Bool.true_eq_false,reduceCtorEq,not_true_eq_false,not_false_eq_true]
    refine ⟨⟨_, SqL.of hl'⟩, ⟨_, SqL.of e2'⟩, fun D1 hD1 => ?_⟩
    refine comp_zipF (K := K) (xs := ws.map V.int) (zs := row.map V.int) (fun k ys σ H2 => Same H' H2 ∧ ys = ((List.zipWith (fun a b => a * b) ws row).take k).map V.int ∧ ∃ x y, σ = [x, y]) ⟨same_new hD1 _, rfl, _, _, rfl⟩ ?_ ?_ ?_
    · rintro k ys σ H2 _ ⟨s2, _⟩
      exact ⟨SqL.of (s2 _ _ hl'), SqL.of (s2 _ _ e2')⟩
    · rintro k x z t2 ys σ H2 hx hz hD2 ⟨s2, rfl, u, v, rfl⟩ ht2
      obtain ⟨n, en, rfl⟩ := map_at hx
      obtain ⟨o, eo, rfl⟩ := map_at hz
      have lk := (List.getElem?_eq_some_iff.mp en).1
      have bn := bw n (mem_at en)
      have nt : D1 ≠ t2 := ne_of_none hD2 ht2
      simp only [↓tVar_c0,↓tVar_c1,↓tVar_c2,↓rI_c,↓rIxL_c,↓ex_bl,↓ex_int,↓ex_ref,↓ex_l1i,↓ex_l1r,↓tComp_eq,↓iZip,↓rSum,capS,↓tNoTest,↓rAppend,Option.bind_some,Option.bind_none,Option.join_some,Option.map_some,List.getElem?_cons_zero,List.getElem?_cons_succ,V.str.injEq,V.ty.injEq,↓tFor_eq,↓iRng1,↓iList,↓tSeq,↓tNext,↓tAsg,↓gName,↓gTup,↓gCons,↓gNil,↓tCB,↓tCons,↓tNil,tVar,↓tC,↓tOp,↓tRet,rI,rIxL,L2.start,truV_int,truV_bl,scal_int,scal_bl,List.map_cons,List.map_nil,List.length_cons,List.length_nil,List.replicate,List.cons_append,List.nil_append,List.append_nil,Option.some.injEq,exists_eq_left',exists_eq_left,exists_and_left,List.cons.injEq,V.int.injEq,V.ref.injEq,V.bl.injEq,and_true,true_and,List.set_cons_zero,List.set_cons_succ,Nat.reduceAdd,Nat.reduceSub,Int.reduceToNat,Int.reducePow,Int.reduceNeg,Int.reduceMul,Int.reduceAdd,Int.reduceSub,decide_eq_true_eq,Bool.not_eq_true',decide_eq_false_iff_not,exists_const,and_assoc,exists_eq,exists_eq',if_true,if_false,Bool.false_eq_true,Bool.true_eq_false,reduceCtorEq,not_true_eq_false,not_false_eq_true]
      refine ⟨_, SqT.of upd_same, rfl, _, _, rfl, _, _, rfl, rfl, ?_⟩
      simp only [↓tVar_c0,↓tVar_c1,↓tVar_c2,↓rI_c,↓rIxL_c,↓ex_bl,↓ex_int,↓ex_ref,↓ex_l1i,↓ex_l1r,↓tComp_eq,↓iZip,↓rSum,capS,↓tNoTest,↓rAppend,Option.bind_some,Option.bind_none,Option.join_some,Option.map_some,List.getElem?_cons_zero,List.getElem?_cons_succ,V.str.injEq,V.ty.injEq,↓tFor_eq,↓iRng1,↓iList,↓tSeq,↓tNext,↓tAsg,↓gName,↓gTup,↓gCons,↓gNil,↓tCB,↓tCons,↓tNil,tVar,↓tC,↓tOp,↓tRet,rI,rIxL,L2.start,truV_int,truV_bl,scal_int,scal_bl,List.map_cons,List.map_nil,List.length_cons,List.length_nil,List.replicate,List.cons_append,List.nil_append,List.append_nil,Option.some.injEq,exists_eq_left',exists_eq_left,exists_and_left,List.cons.injEq,V.int.injEq,V.ref.injEq,V.bl.injEq,and_true,true_and,List.set_cons_zero,List.set_cons_succ,Nat.reduceAdd,Nat.reduceSub,Int.reduceToNat,Int.reducePow,Int.reduceNeg,Int.reduceMul,Int.reduceAdd,Int.reduceSub,decide_eq_true_eq,Bool.not_eq_true',decide_eq_false_iff_not,exists_const,and_assoc,exists_eq,exists_eq',if_true,if_false,Bool.false_eq_true,Bool.true_eq_false,reduceCtorEq,not_true_eq_false,not_false_eq_true]
      refine ⟨mulL (by omega) (by omega), _, by rw [upd_ne nt]; exact hD2, ?_, _, upd_same, (s2.add ht2).put hD1, ?_⟩
      · rw [List.length_map, List.length_take]
        simp only [sizeLine]
        omega
      · rw [zip_succ en eo, List.map_append]
        rfl
    · rintro ys σ H2 hD2 ⟨s2, rfl, u, v, rfl⟩
      rw [zip_all (by rw [List.length_map, List.length_map])] at hD2
      refine ⟨D1, rfl, _, SqL.of hD2, _, s2 _ _ hD', ?_, _, upd_same, (s.trans s2).put hD, ?_⟩
      · rw [List.length_map, List.length_map, List.length_take]
        simp only [sizeLine]
        omega
      · rw [take_succ_map e1, List.map_append]
        rfl
  · rintro ys σ H' hD' ⟨s, rfl, y, rfl⟩
    rw [List.length_map, B.len, List.take_length] at hD'
    exact q D H' s hD'
theorem sc_row_sums : FnScope ["table", "columns"] ["table", "columns"] (defScope s_row_sums) := ⟨rfl, rfl, rfl, by decide +kernel, rfl, by decide +kernel, by decide +kernel⟩
theorem ok_row_sums (T : Txt K mg a) : FnOk P w K mg base CX0 1 a.f_row_sums a.d_row_sums ["table", "columns"] (spRowSums K) := by
  refine T.F_row_sums.ok sc_row_sums (fun vs H Q E h => ?_) (fun cdv A outer s H vs Q E hr h => ?_)
  · obtain ⟨t, l, rs, rows, w, ws, rfl, B, hl, lw, bw, q⟩ := h
    rfl
  obtain ⟨t, l, rs, rows, w, ws, rfl, B, hl, lw, bw, q⟩ := h
  exact ⟨t_row_sums K, (pss_one (ps_ret (pe_comp (sc := defScope s_row_sums) (N := ["table", "columns"]) (Nc := ["row", "columns"]) (cap := [none, some 1]) rfl rfl rfl (.of (by decide +kernel)) (pi_list (pv 0)) (fun _ _ _ _ => (pg_name (i := 0) (show List.Nodup (["row", "columns"] : List Str) from by decide) rfl (Or.inl rfl))) (fun _ _ _ _ => pts_nil) (fun _ _ _ _ => (pe_callB (call_sum rfl) rfl T.z_sum PyProof.Rows.boot_sum (pa_cons (pe_comp (N := ["row", "columns"]) (Nc := ["weight", "number"]) (cap := [none, none]) rfl (blk_sc.trans (congrArg (relabelS _) (rfl : _ = defScope s_row_sums))) rfl (.of (by decide +kernel)) (pi_zip rfl T.z_zip (pa_cons (pv 1) (pa_cons (pv 0) pa_nil))) (fun _ _ _ _ => (pg_tup rfl (pgs_cons (pg_name (i := 0) (show List.Nodup (["weight", "number"] : List Str) from by decide) rfl (Or.inl rfl)) (pgs_cons (pg_name (i := 1) (show List.Nodup (["weight", "number"] : List Str) from by decide) rfl (Or.inl rfl)) pgs_nil)))) (fun _ _ _ _ => pts_nil) (fun _ _ _ _ => (pe_op op_mulG (pv 0) (pv 1)))) pa_nil)))))),
    rd_row_sums B hl lw bw q⟩
def t_column_sums (K : PySem.W.Frag) : TS :=
  (tSeq (tAsg (tCB (fun xs H Q => ∃ p ys, xs = [.ref p] ∧ (SqL K H p ys ∨ SqT K H p ys) ∧ Q (.int ys.length) H) (tCons (tOp (rIxL K) (tVar 0) (tC (.int 0))) tNil)) (gName 2))
  (tRet (tComp (iRng1 (tCons (tVar 2) tNil)) (gName 0) tNoTest (tCB (rSum K) (tCons (tComp (iZip K (tCons (tVar 1) (tCons (tVar 2) tNil))) (gTup K 2 (gCons (gName 0) (gCons (gName 1) gNil))) tNoTest (tOp (rI IntMulOk fun i j => .int (i * j)) (tVar 0) (tOp (rIxL K) (tVar 1) (tVar 2))) [none, none, some 0]) tNil)) [none, some 1, some 0])))
theorem rd_column_sums {t l : Addr} {rs : List Addr} {rows : List (List Int)} {w : Nat} {ws : List Int} (B : Tb H t rs rows w) (hl : H l = some (.lst (ws.map V.int))) (lw : ws.length = rows.length) (bw : ∀ x ∈ ws, -1 ≤ x ∧ x ≤ 10) (q : ∀ (r : Addr) (H' : Hp), Same H H' → H' r = some (.lst ((csums ws rows w).map V.int)) → Q (.ref r) H') :
    t_column_sums K { nx := fun _ H' => Q .non H', rt := Q } (L2.start ["table", "rows", "many"] [.ref t, .ref l]) H := by
  unfold t_column_sums
  have l6 := B.l6
  have w6 := B.w6
  obtain ⟨r0, row0, a0, h0, w0⟩ := B.first
  simp only [↓tVar_c0,↓tVar_c1,↓tVar_c2,↓rI_c,↓rIxL_c,↓ex_bl,↓ex_int,↓ex_ref,↓ex_l1i,↓ex_l1r,↓iEnum,↓tComp_eq,↓iZip,↓rMinL,↓rSum,capS,↓tNoTest,↓rAppend,Option.bind_some,Option.bind_none,Option.join_some,Option.map_some,List.getElem?_cons_zero,List.getElem?_cons_succ,↓tRaise,V.str.injEq,V.ty.injEq,↓tFor_eq,↓iRng1,↓tSeq,↓tNext,↓tAsg,↓gName,↓gTup,↓gCons,↓gNil,↓tCB,↓tCons,↓tNil,tVar,↓tC,↓tOp,↓tTest,↓tB,↓tNot,↓tIfS,↓tRet,↓tDrop,↓tCall,rI,↓rEq,rIxL,L2.start,truV_int,truV_bl,scal_int,scal_bl,List.map_cons,List.map_nil,List.length_cons,List.length_nil,List.replicate,List.cons_append,List.nil_append,List.append_nil,Option.some.injEq,exists_eq_left',exists_eq_left,exists_and_left,List.cons.injEq,V.int.injEq,V.ref.injEq,V.bl.injEq,and_true,true_and,List.set_cons_zero,List.set_cons_succ,Nat.reduceAdd,Nat.reduceSub,Int.reduceToNat,Int.reducePow,Int.reduceNeg,Int.reduceMul,Int.reduceAdd,Int.reduceSub,decide_eq_true_eq,Bool.not_eq_true',decide_eq_false_iff_not,exists_const,and_assoc,exists_eq,exists_eq',if_true,if_false,Bool.false_eq_true,Bool.true_eq_false,reduceCtorEq,not_true_eq_false,not_false_eq_true]
  refine ⟨_, SqL.of B.ht, _, a0, _, rfl, _, .inl (SqL.of h0), ?_⟩
  rw [List.length_map, w0, Int.toNat_natCast]
  refine ⟨by omega, by omega, fun D hD => ?_⟩
  refine comp_rangeF (fun j ys σ H' => Same H H' ∧ ys = ((List.range j).map (cdot ws rows)).map V.int ∧ ∃ x, σ = [x, some (.ref l), some (.ref t)]) ⟨same_new hD _, rfl, _, rfl⟩ ?_ ?_
  · rintro j ys σ H' hj hD' ⟨s, rfl, y, rfl⟩
    rw [Int.zero_add]
    have hl' := s _ _ hl
    have ht' := s _ _ B.ht
    simp only [↓tVar_c0,↓tVar_c1,↓tVar_c2,↓rI_c,↓rIxL_c,↓ex_bl,↓ex_int,↓ex_ref,↓ex_l1i,↓ex_l1r,↓iEnum,↓tComp_eq,↓iZip,↓rMinL,↓rSum,capS,↓tNoTest,↓rAppend,Option.bind_some,Option.bind_none,Option.join_some,Option.map_some,List.getElem?_cons_zero,List.getElem?_cons_succ,↓tRaise,V.str.injEq,V.ty.injEq,↓tFor_eq,↓iRng1,↓tSeq,↓tNext,↓tAsg,↓gName,↓gTup,↓gCons,↓gNil,↓tCB,↓tCons,↓tNil,tVar,↓tC,↓tOp,↓tTest,↓tB,↓tNot,↓tIfS,↓tRet,↓tDrop,↓tCall,rI,↓rEq,rIxL,L2.start,truV_int,truV_bl,scal_int,scal_bl,List.map_cons,List.map_nil,List.length_cons,List.length_nil,List.replicate,List.cons_append,List.nil_append,List.append_nil,Option.some.injEq,exists_eq_left',exists_eq_left,exists_and_left,List.cons.injEq,V.int.injEq,V.ref.injEq,V.bl.injEq,and_true,true_and,List.set_cons_zero,List.set_cons_succ,Nat.reduceAdd,Nat.reduceSub,Int.reduceToNat,Int.reducePow,Int.reduceNeg,Int.reduceMul,Int.reduceAdd,Int.reduceSub,decide_eq_true_eq,Bool.not_eq_true',decide_eq_false_iff_not,exists_const,and_assoc,exists_eq,exists_eq',if_true,if_false,Bool.false_eq_true,Bool.true_eq_false,reduceCtorEq,not_true_eq_false,not_false_eq_true]
    refine ⟨⟨_, SqL.of hl'⟩, ⟨_, SqL.of ht'⟩, fun D1 hD1 => ?_⟩
    refine comp_zipF (K := K) (xs := ws.map V.int) (zs := rs.map V.ref) (fun k ys σ H2 => Same H' H2 ∧ ys = ((List.zipWith (fun a r => a * r.getD j 0) ws rows).take k).map V.int ∧ ∃ x y, σ = [x, y, some (.int j)]) ⟨same_new hD1 _, rfl, _, _, rfl⟩ ?_ ?_ ?_
    · rintro k ys σ H2 _ ⟨s2, _⟩
      exact ⟨SqL.of (s2 _ _ hl'), SqL.of (s2 _ _ ht')⟩
    · rintro k x z t2 ys σ H2 hx hz hD2 ⟨s2, rfl, u, v, rfl⟩ ht2
      obtain ⟨n, en, rfl⟩ := map_at hx
      obtain ⟨r, er, rfl⟩ := map_at hz
      obtain ⟨row, e1, e2, e3⟩ := B.at er
      have lk := (List.getElem?_eq_some_iff.mp en).1
      have bn := bw n (mem_at en)
      have nt : D1 ≠ t2 := ne_of_none hD2 ht2
      obtain ⟨o, ho, eo⟩ := at_int (ns := row) (k := (j : Int)) (by omega) (by omega)
      rw [Int.toNat_natCast] at eo
      simp only [↓tVar_c0,↓tVar_c1,↓tVar_c2,↓rI_c,↓rIxL_c,↓ex_bl,↓ex_int,↓ex_ref,↓ex_l1i,↓ex_l1r,↓iEnum,↓tComp_eq,↓iZip,↓rMinL,↓rSum,capS,↓tNoTest,↓rAppend,Option.bind_some,Option.bind_none,Option.join_some,Option.map_some,List.getElem?_cons_zero,List.getElem?_cons_succ,↓tRaise,V.str.injEq,V.ty.injEq,↓tFor_eq,↓iRng1,↓tSeq,↓tNext,↓tAsg,↓gName,↓gTup,↓gCons,↓gNil,↓tCB,↓tCons,↓tNil,tVar,↓tC,↓tOp,↓tTest,↓tB,↓tNot,↓tIfS,↓tRet,↓tDrop,↓tCall,rI,↓rEq,rIxL,L2.start,truV_int,truV_bl,scal_int,scal_bl,List.map_cons,List.map_nil,List.length_cons,List.length_nil,List.replicate,List.cons_append,List.nil_append,List.append_nil,Option.some.injEq,exists_eq_left',exists_eq_left,exists_and_left,List.cons.injEq,V.int.injEq,V.ref.injEq,V.bl.injEq,and_true,true_and,List.set_cons_zero,List.set_cons_succ,Nat.reduceAdd,Nat.reduceSub,Int.reduceToNat,Int.reducePow,Int.reduceNeg,Int.reduceMul,Int.reduceAdd,Int.reduceSub,decide_eq_true_eq,Bool.not_eq_true',decide_eq_false_iff_not,exists_const,and_assoc,exists_eq,exists_eq',if_true,if_false,Bool.false_eq_true,Bool.true_eq_false,reduceCtorEq,not_true_eq_false,not_false_eq_true]
      refine ⟨_, SqT.of upd_same, rfl, _, _, rfl, _, _, rfl, rfl, ?_⟩
      simp only [↓tVar_c0,↓tVar_c1,↓tVar_c2,↓rI_c,↓rIxL_c,↓ex_bl,↓ex_int,↓ex_ref,↓ex_l1i,↓ex_l1r,↓iEnum,↓tComp_eq,↓iZip,↓rMinL,↓rSum,capS,↓tNoTest,↓rAppend,Option.bind_some,Option.bind_none,Option.join_some,Option.map_some,List.getElem?_cons_zero,List.getElem?_cons_succ,↓tRaise,V.str.injEq,V.ty.injEq,↓tFor_eq,↓iRng1,↓tSeq,↓tNext,↓tAsg,↓gName,↓gTup,↓gCons,↓gNil,↓tCB,↓tCons,↓tNil,tVar,↓tC,↓tOp,↓tTest,↓tB,↓tNot,↓tIfS,↓tRet,↓tDrop,↓tCall,rI,↓rEq,rIxL,L2.start,truV_int,truV_bl,scal_int,scal_bl,List.map_cons,List.map_nil,List.length_cons,List.length_nil,List.replicate,List.cons_append,List.nil_append,List.append_nil,Option.some.injEq,exists_eq_left',exists_eq_left,exists_and_left,List.cons.injEq,V.int.injEq,V.ref.injEq,V.bl.injEq,and_true,true_and,List.set_cons_zero,List.set_cons_succ,Nat.reduceAdd,Nat.reduceSub,Int.reduceToNat,Int.reducePow,Int.reduceNeg,Int.reduceMul,Int.reduceAdd,Int.reduceSub,decide_eq_true_eq,Bool.not_eq_true',decide_eq_false_iff_not,exists_const,and_assoc,exists_eq,exists_eq',if_true,if_false,Bool.false_eq_true,Bool.true_eq_false,reduceCtorEq,not_true_eq_false,not_false_eq_true]
      refine ⟨_, SqL.of ((s2.add ht2) _ _ (s _ _ e2)), _, ho, _, rfl, mulL (by omega) (by omega), _, by rw [upd_ne nt]; exact hD2, ?_, _, upd_same, (s2.add ht2).put hD1, ?_⟩
      · rw [List.length_map, List.length_take]
        simp only [sizeLine]
        omega
      · rw [zip_succ en e1, List.map_append, get_getD eo]
        rfl
    · rintro ys σ H2 hD2 ⟨s2, rfl, u, v, rfl⟩
      rw [zip_all (by rw [List.length_map, List.length_map, B.len])] at hD2
      refine ⟨D1, rfl, _, SqL.of hD2, _, s2 _ _ hD', ?_, _, upd_same, (s.trans s2).put hD, ?_⟩
      · rw [List.length_map, List.length_map, List.length_range]
        simp only [sizeLine]
        omega
      · rw [List.range_succ, List.map_append, List.map_append]
        rfl
  · rintro ys σ H' hD' ⟨s, rfl, y, rfl⟩
    exact q D H' s hD'
theorem sc_column_sums : FnScope ["table", "rows", "many"] ["table", "rows"] (defScope s_column_sums) := ⟨rfl, rfl, rfl, by decide +kernel, rfl, by decide +kernel, by decide +kernel⟩
theorem ok_column_sums (T : Txt K mg a) : FnOk P w K mg base CX0 1 a.f_column_sums a.d_column_sums ["table", "rows"] (spColSums K) := by
  refine T.F_column_sums.ok sc_column_sums (fun vs H Q E h => ?_) (fun cdv A outer s H vs Q E hr h => ?_)
  · obtain ⟨t, l, rs, rows, w, ws, rfl, B, hl, lw, bw, q⟩ := h
    rfl
  obtain ⟨t, l, rs, rows, w, ws, rfl, B, hl, lw, bw, q⟩ := h
  exact ⟨t_column_sums K, (pss_cons (ps_set (i := 2) sc_column_sums.nd rfl (Or.inl rfl) (pe_callB call_len_seq rfl T.z_len PySem.boot_len (pa_cons (pe_ix ix_list (pv 0) pe_int (fun _ _ => rfl)) pa_nil)))
  (pss_one (ps_ret (pe_compC (sc := defScope s_column_sums) (N := ["table", "rows", "many"]) (Nc := ["j", "rows", "table"]) (cap := [none, some 1, some 0]) rfl rfl rfl (.of (by decide +kernel)) (pi_range1 rfl T.z_range (pa_cons (pv 2) pa_nil)) (fun _ _ _ _ => (pg_name (i := 0) (show List.Nodup (["j", "rows", "table"] : List Str) from by decide) rfl (Or.inr rfl))) (fun _ _ _ _ => pts_nil) (fun _ _ _ _ => (pe_callB (call_sum rfl) rfl T.z_sum PyProof.Rows.boot_sum (pa_cons (pe_comp (N := ["j", "rows", "table"]) (Nc := ["weight", "row", "j"]) (cap := [none, none, some 0]) rfl (blkC_sc.trans (congrArg (relabelS _) (rfl : _ = defScope s_column_sums))) rfl (.of (by decide +kernel)) (pi_zip rfl T.z_zip (pa_cons (pv 1) (pa_cons (pv 2) pa_nil))) (fun _ _ _ _ => (pg_tup rfl (pgs_cons (pg_name (i := 0) (show List.Nodup (["weight", "row", "j"] : List Str) from by decide) rfl (Or.inl rfl)) (pgs_cons (pg_name (i := 1) (show List.Nodup (["weight", "row", "j"] : List Str) from by decide) rfl (Or.inl rfl)) pgs_nil)))) (fun _ _ _ _ => pts_nil) (fun _ _ _ _ => (pe_op op_mulG (pv 0) (pe_ix ix_list (pv 1) (pv 2) (fun _ _ => rfl))))) pa_nil))))))),
    rd_column_sums B hl lw bw q⟩
def t_best_rows_0 (K : PySem.W.Frag) : TS :=
  (tSeq (tAsg (tCall (spRowSums K) [] E0 (tCons (tVar 0) (tCons (tVar 1) tNil))) (gName 2))
  (tSeq (tAsg (tCB (rMinL K) (tCons (tVar 2) tNil)) (gName 3))
  (tRet (tComp (iEnum K (tCons (tVar 2) tNil)) (gTup K 2 (gCons (gName 0) (gCons (gName 1) gNil))) (tTest (tOp rEq (tVar 1) (tVar 2))) (tVar 0) [none, none, some 3]))))
theorem t_best_rows_0_eq (K : PySem.W.Frag) (D : Ends) (σ : St) (H : Hp) : t_best_rows_0 K D σ H = (tSeq (tAsg (tCall (spRowSums K) [] E0 (tCons (tVar 0) (tCons (tVar 1) tNil))) (gName 2))
  (tSeq (tAsg (tCB (rMinL K) (tCons (tVar 2) tNil)) (gName 3))
  (tRet (tComp (iEnum K (tCons (tVar 2) tNil)) (gTup K 2 (gCons (gName 0) (gCons (gName 1) gNil))) (tTest (tOp rEq (tVar 1) (tVar 2))) (tVar 0) [none, none, some 3])))) D σ H := rfl
def t_best_rows_1 (K : PySem.W.Frag) (a : Ad) (E : XK) : TS :=
  (tIfS (tNot (tB (tCall (spWeights K) [] E0 (tCons (tVar 1) (tCons (tCB (fun xs H Q => ∃ p ys, xs = [.ref p] ∧ (SqL K H p ys ∨ SqT K H p ys) ∧ Q (.int ys.length) H) (tCons (tOp (rIxL K) (tVar 0) (tC (.int 0))) tNil)) tNil))))) (tRaise (.ref a.c_NoWeights) E) tNext)
theorem t_best_rows_1_eq (K : PySem.W.Frag) (a : Ad) (E : XK) (D : Ends) (σ : St) (H : Hp) : t_best_rows_1 K a E D σ H = (tIfS (tNot (tB (tCall (spWeights K) [] E0 (tCons (tVar 1) (tCons (tCB (fun xs H Q => ∃ p ys, xs = [.ref p] ∧ (SqL K H p ys ∨ SqT K H p ys) ∧ Q (.int ys.length) H) (tCons (tOp (rIxL K) (tVar 0) (tC (.int 0))) tNil)) tNil))))) (tRaise (.ref a.c_NoWeights) E) tNext) D σ H := rfl
def t_best_rows (K : PySem.W.Frag) (a : Ad) (E : XK) : TS :=
  (tSeq (tDrop (tCall (spLookTab K) [] E0 (tCons (tVar 0) tNil)))
  (tSeq (tCut (t_best_rows_1 K a E))
  (t_best_rows_0 K)))
theorem comp_idx {r D : Addr} {ns : List Int} {m : Int} (hr : H r = some (.lst (ns.map V.int))) (hD : H D = none) (ln : ns.length ≤ 6) (q : ∀ H', Same H H' → H' D = some (.lst ((idx ns m).map V.int)) → Q (.ref D) H') :
    CompIt (Ite K r) (gTup K 2 (gCons (gName 0) (gCons (gName 1) gNil))) (tTest (tOp rEq (tVar 1) (tVar 2))) (tVar 0) D Q [none, none, some (V.int m)] (upd H D (HO.lst [])) := by
  refine comp_enumF (K := K) (xs := ns.map V.int) (fun i ys σ H' => Same H H' ∧ ys = (idxN ns m i).map V.int ∧ ∃ x y, σ = [x, y, some (.int m)]) ⟨same_new hD _, rfl, _, _, rfl⟩ ?_ ?_ ?_
  · rintro i ys σ H' _ ⟨s, _⟩
    exact SqL.of (s _ _ hr)
  · rintro i x t ys σ H' hi hD' ⟨s, rfl, u, v, rfl⟩ ht
    obtain ⟨n, en, rfl⟩ := map_at hi
    have li := (List.getElem?_eq_some_iff.mp en).1
    have nt : D ≠ t := ne_of_none hD' ht
    have ll := idxN_len ns m i
    simp only [t_best_rows_0_eq,t_best_rows_1_eq,↓tVar_c0,↓tVar_c1,↓tVar_c2,↓rIxL_c,↓ex_bl,↓ex_int,↓ex_ref,↓ex_l1i,↓ex_l1r,↓iEnum,↓tComp_eq,↓rMaxL,↓rMinL,capS,↓rAppend,Option.bind_some,Option.bind_none,Option.join_some,Option.map_some,List.getElem?_cons_zero,List.getElem?_cons_succ,↓tRaise,V.str.injEq,V.ty.injEq,↓tFor_eq,↓tSeq,↓tNext,↓tAsg,↓gName,↓gTup,↓gCons,↓gNil,↓tCB,↓tCons,↓tNil,tVar,↓tC,↓tOp,↓tTest,↓tB,↓tNot,↓tIfS,↓tRet,↓tDrop,↓tCall,↓rEq,rIxL,L2.start,truV_int,truV_bl,scal_int,scal_bl,List.map_cons,List.map_nil,List.length_cons,List.length_nil,List.replicate,List.cons_append,List.nil_append,List.append_nil,Option.some.injEq,exists_eq_left',exists_eq_left,exists_and_left,List.cons.injEq,V.int.injEq,V.ref.injEq,V.bl.injEq,and_true,true_and,List.set_cons_zero,List.set_cons_succ,Nat.reduceAdd,Nat.reduceSub,Int.reduceToNat,Int.reducePow,Int.reduceNeg,Int.reduceMul,Int.reduceAdd,Int.reduceSub,decide_eq_true_eq,Bool.not_eq_true',decide_eq_false_iff_not,exists_const,and_assoc,exists_eq,exists_eq',if_true,if_false,Bool.false_eq_true,Bool.true_eq_false,reduceCtorEq,not_true_eq_false,not_false_eq_true]
    refine ⟨_, SqT.of upd_same, rfl, _, _, rfl, _, _, rfl, rfl, ?_⟩
    simp only [t_best_rows_0_eq,t_best_rows_1_eq,↓tVar_c0,↓tVar_c1,↓tVar_c2,↓rIxL_c,↓ex_bl,↓ex_int,↓ex_ref,↓ex_l1i,↓ex_l1r,↓iEnum,↓tComp_eq,↓rMaxL,↓rMinL,capS,↓rAppend,Option.bind_some,Option.bind_none,Option.join_some,Option.map_some,List.getElem?_cons_zero,List.getElem?_cons_succ,↓tRaise,V.str.injEq,V.ty.injEq,↓tFor_eq,↓tSeq,↓tNext,↓tAsg,↓gName,↓gTup,↓gCons,↓gNil,↓tCB,↓tCons,↓tNil,tVar,↓tC,↓tOp,↓tTest,↓tB,↓tNot,↓tIfS,↓tRet,↓tDrop,↓tCall,↓rEq,rIxL,L2.start,truV_int,truV_bl,scal_int,scal_bl,List.map_cons,List.map_nil,List.length_cons,List.length_nil,List.replicate,List.cons_append,List.nil_append,List.append_nil,Option.some.injEq,exists_eq_left',exists_eq_left,exists_and_left,List.cons.injEq,V.int.injEq,V.ref.injEq,V.bl.injEq,and_true,true_and,List.set_cons_zero,List.set_cons_succ,Nat.reduceAdd,Nat.reduceSub,Int.reduceToNat,Int.reducePow,Int.reduceNeg,Int.reduceMul,Int.reduceAdd,Int.reduceSub,decide_eq_true_eq,Bool.not_eq_true',decide_eq_false_iff_not,exists_const,and_assoc,exists_eq,exists_eq',if_true,if_false,Bool.false_eq_true,Bool.true_eq_false,reduceCtorEq,not_true_eq_false,not_false_eq_true]
    refine ite2 (fun c => ?_) (fun c => ?_)
    · refine ⟨_, by rw [upd_ne nt]; exact hD', by rw [List.length_map]; simp only [sizeLine]; omega, _, upd_same, (s.add ht).put hD, ?_⟩
      rw [idxN_succ, get_getD en, if_pos c, List.map_append]
      rfl
    · refine ⟨_, by rw [upd_ne nt]; exact hD', s.add ht, ?_⟩
      rw [idxN_succ, get_getD en, if_neg c]
  · rintro ys σ H' hD' ⟨s, rfl, u, v, rfl⟩
    rw [List.length_map] at hD'
    exact q H' s hD'
theorem rd_best_rows {t l : Addr} {rs : List Addr} {rows : List (List Int)} {w : Nat} {xs : List V} (B : Tb H t rs rows w) (hl : H l = some (.lst xs)) (hx : ∀ x ∈ xs, Wv x) (lx : xs.length ≤ 7) (q0 : good 0 xs rows w = false → ∀ H', Same H H' → E (.ref a.c_NoWeights) none H') (q1 : good 0 xs rows w = true → ∀ (r : Addr) (m : Int) (H' : Hp), Same H H' → H r = none → Best 0 (sms 0 xs rows w) m → H' r = some (.lst ((idx (sms 0 xs rows w) m).map V.int)) → Q (.ref r) H') :
    t_best_rows K a E { nx := fun _ H' => Q .non H', rt := Q } (L2.start ["table", "columns", "sums", "least"] [.ref t, .ref l]) H := by
  unfold t_best_rows
  simp only [t_best_rows_0_eq,t_best_rows_1_eq,↓tVar_c0,↓tVar_c1,↓tVar_c2,↓rIxL_c,↓ex_bl,↓ex_int,↓ex_ref,↓ex_l1i,↓ex_l1r,↓iEnum,↓tComp_eq,↓rMaxL,↓rMinL,capS,↓rAppend,Option.bind_some,Option.bind_none,Option.join_some,Option.map_some,List.getElem?_cons_zero,List.getElem?_cons_succ,↓tRaise,V.str.injEq,V.ty.injEq,↓tFor_eq,↓tSeq,↓tNext,↓tAsg,↓gName,↓gTup,↓gCons,↓gNil,↓tCB,↓tCons,↓tNil,tVar,↓tC,↓tOp,↓tTest,↓tB,↓tNot,↓tIfS,↓tRet,↓tDrop,↓tCall,↓rEq,rIxL,L2.start,truV_int,truV_bl,scal_int,scal_bl,List.map_cons,List.map_nil,List.length_cons,List.length_nil,List.replicate,List.cons_append,List.nil_append,List.append_nil,Option.some.injEq,exists_eq_left',exists_eq_left,exists_and_left,List.cons.injEq,V.int.injEq,V.ref.injEq,V.bl.injEq,and_true,true_and,List.set_cons_zero,List.set_cons_succ,Nat.reduceAdd,Nat.reduceSub,Int.reduceToNat,Int.reducePow,Int.reduceNeg,Int.reduceMul,Int.reduceAdd,Int.reduceSub,decide_eq_true_eq,Bool.not_eq_true',decide_eq_false_iff_not,exists_const,and_assoc,exists_eq,exists_eq',if_true,if_false,Bool.false_eq_true,Bool.true_eq_false,reduceCtorEq,not_true_eq_false,not_false_eq_true]
  refine ⟨t, rs, rows, w, rfl, B, fun H1 s1 => ?_⟩
  have B1 := B.same s1
  obtain ⟨r0, row0, a0, h0, w0⟩ := B1.first
  refine ⟨fun σ H' => Same H H' ∧ good 0 xs rows w = true ∧ σ = [some (.ref t), some (.ref l), none, none], ?_, ?_⟩
  · simp only [t_best_rows_0_eq,t_best_rows_1_eq,↓tVar_c0,↓tVar_c1,↓tVar_c2,↓rIxL_c,↓ex_bl,↓ex_int,↓ex_ref,↓ex_l1i,↓ex_l1r,↓iEnum,↓tComp_eq,↓rMaxL,↓rMinL,capS,↓rAppend,Option.bind_some,Option.bind_none,Option.join_some,Option.map_some,List.getElem?_cons_zero,List.getElem?_cons_succ,↓tRaise,V.str.injEq,V.ty.injEq,↓tFor_eq,↓tSeq,↓tNext,↓tAsg,↓gName,↓gTup,↓gCons,↓gNil,↓tCB,↓tCons,↓tNil,tVar,↓tC,↓tOp,↓tTest,↓tB,↓tNot,↓tIfS,↓tRet,↓tDrop,↓tCall,↓rEq,rIxL,L2.start,truV_int,truV_bl,scal_int,scal_bl,List.map_cons,List.map_nil,List.length_cons,List.length_nil,List.replicate,List.cons_append,List.nil_append,List.append_nil,Option.some.injEq,exists_eq_left',exists_eq_left,exists_and_left,List.cons.injEq,V.int.injEq,V.ref.injEq,V.bl.injEq,and_true,true_and,List.set_cons_zero,List.set_cons_succ,Nat.reduceAdd,Nat.reduceSub,Int.reduceToNat,Int.reducePow,Int.reduceNeg,Int.reduceMul,Int.reduceAdd,Int.reduceSub,decide_eq_true_eq,Bool.not_eq_true',decide_eq_false_iff_not,exists_const,and_assoc,exists_eq,exists_eq',if_true,if_false,Bool.false_eq_true,Bool.true_eq_false,reduceCtorEq,not_true_eq_false,not_false_eq_true]
    refine ⟨_, SqL.of B1.ht, _, a0, _, rfl, _, .inl (SqL.of h0), l, xs, _, rfl, s1 _ _ hl, hx, lx, fun H2 s2 => ⟨_, rfl, ?_⟩⟩
    rw [List.length_map, w0]
    refine ite2 (fun c => q0 c _ (s1.trans s2)) (fun c => ⟨s1.trans s2, eq_true_of_ne_false c⟩)
  · rintro σ H2 ⟨s2, g2, rfl⟩
    obtain ⟨g3, g4, g5⟩ := gw_parts (show gw xs w = true from g2)
    simp only [t_best_rows_0_eq,t_best_rows_1_eq,↓tVar_c0,↓tVar_c1,↓tVar_c2,↓rIxL_c,↓ex_bl,↓ex_int,↓ex_ref,↓ex_l1i,↓ex_l1r,↓iEnum,↓tComp_eq,↓rMaxL,↓rMinL,capS,↓rAppend,Option.bind_some,Option.bind_none,Option.join_some,Option.map_some,List.getElem?_cons_zero,List.getElem?_cons_succ,↓tRaise,V.str.injEq,V.ty.injEq,↓tFor_eq,↓tSeq,↓tNext,↓tAsg,↓gName,↓gTup,↓gCons,↓gNil,↓tCB,↓tCons,↓tNil,tVar,↓tC,↓tOp,↓tTest,↓tB,↓tNot,↓tIfS,↓tRet,↓tDrop,↓tCall,↓rEq,rIxL,L2.start,truV_int,truV_bl,scal_int,scal_bl,List.map_cons,List.map_nil,List.length_cons,List.length_nil,List.replicate,List.cons_append,List.nil_append,List.append_nil,Option.some.injEq,exists_eq_left',exists_eq_left,exists_and_left,List.cons.injEq,V.int.injEq,V.ref.injEq,V.bl.injEq,and_true,true_and,List.set_cons_zero,List.set_cons_succ,Nat.reduceAdd,Nat.reduceSub,Int.reduceToNat,Int.reducePow,Int.reduceNeg,Int.reduceMul,Int.reduceAdd,Int.reduceSub,decide_eq_true_eq,Bool.not_eq_true',decide_eq_false_iff_not,exists_const,and_assoc,exists_eq,exists_eq',if_true,if_false,Bool.false_eq_true,Bool.true_eq_false,reduceCtorEq,not_true_eq_false,not_false_eq_true]
    refine ⟨t, l, rs, rows, w, xs.map iv, rfl, B.same s2, by rw [← g4]; exact s2 _ _ hl, by rw [List.length_map]; omega, wv_small hx, fun r H3 s3 hr => ?_⟩
    have l1 := B.l1
    have l6 := B.l6
    have ls : (rsums (xs.map iv) rows).length = rows.length := List.length_map ..
    simp only [t_best_rows_0_eq,t_best_rows_1_eq,↓tVar_c0,↓tVar_c1,↓tVar_c2,↓rIxL_c,↓ex_bl,↓ex_int,↓ex_ref,↓ex_l1i,↓ex_l1r,↓iEnum,↓tComp_eq,↓rMaxL,↓rMinL,capS,↓rAppend,Option.bind_some,Option.bind_none,Option.join_some,Option.map_some,List.getElem?_cons_zero,List.getElem?_cons_succ,↓tRaise,V.str.injEq,V.ty.injEq,↓tFor_eq,↓tSeq,↓tNext,↓tAsg,↓gName,↓gTup,↓gCons,↓gNil,↓tCB,↓tCons,↓tNil,tVar,↓tC,↓tOp,↓tTest,↓tB,↓tNot,↓tIfS,↓tRet,↓tDrop,↓tCall,↓rEq,rIxL,L2.start,truV_int,truV_bl,scal_int,scal_bl,List.map_cons,List.map_nil,List.length_cons,List.length_nil,List.replicate,List.cons_append,List.nil_append,List.append_nil,Option.some.injEq,exists_eq_left',exists_eq_left,exists_and_left,List.cons.injEq,V.int.injEq,V.ref.injEq,V.bl.injEq,and_true,true_and,List.set_cons_zero,List.set_cons_succ,Nat.reduceAdd,Nat.reduceSub,Int.reduceToNat,Int.reducePow,Int.reduceNeg,Int.reduceMul,Int.reduceAdd,Int.reduceSub,decide_eq_true_eq,Bool.not_eq_true',decide_eq_false_iff_not,exists_const,and_assoc,exists_eq,exists_eq',if_true,if_false,Bool.false_eq_true,Bool.true_eq_false,reduceCtorEq,not_true_eq_false,not_false_eq_true]
    refine ⟨_, SqL.of hr, by omega, fun m m1 m2 => ⟨⟨_, SqL.of hr⟩, fun D hD => ?_⟩⟩
    have hD0 : H D = none := (s2.trans s3).free hD
    exact comp_idx hr hD (by omega) fun H4 s4 h4 => q1 g2 D m H4 ((s2.trans s3).trans s4) hD0 ⟨m1, fun b hb => ⟨fun _ => m2 b hb, fun z => absurd rfl z⟩⟩ h4
theorem sc_best_rows : FnScope ["table", "columns", "sums", "least"] ["table", "columns"] (defScope s_best_rows) := ⟨rfl, rfl, rfl, by decide +kernel, rfl, by decide +kernel, by decide +kernel⟩
theorem ok_best_rows (T : Txt K mg a) : FnOk P w K mg base (CXE P w) 5 a.f_best_rows a.d_best_rows ["table", "columns"] (spBestRows K a) := by
  have G_are_weights := ok_are_weights (P := P) (w := w) (base := base) T
  have G_look_table := ok_look_table (P := P) (w := w) (base := base) T
  have G_row_sums := ok_row_sums (P := P) (w := w) (base := base) T
  refine T.F_best_rows.okX sc_best_rows (fun vs H Q E h => ?_) (fun cdv A outer s H vs Q E hr h => ?_)
  · obtain ⟨t, l, rs, rows, w, xs, rfl, B, hl, hx, lx, q0, q1⟩ := h
    rfl
  obtain ⟨t, l, rs, rows, w, xs, rfl, B, hl, hx, lx, q0, q1⟩ := h
  exact ⟨t_best_rows K a E, (pss_cons (ps_expr (pe_call G_look_table (hr.mono (by decide)) rfl T.m_look_table T.F_look_table.kp T.b_look_table .nil pass0 (pa_cons (pv 0) pa_nil)))
  (pss_cons (ps_cut (ps_if (pt_not (pt_val (pe_call G_are_weights (hr.mono (by decide)) rfl T.m_are_weights T.F_are_weights.kp T.b_are_weights .nil pass0 (pa_cons (pv 1) (pa_cons (pe_callB call_len_seq rfl T.z_len PySem.boot_len (pa_cons (pe_ix ix_list (pv 0) pe_int (fun _ _ => rfl)) pa_nil)) pa_nil))))) (pss_one (ps_raise T.m_NoWeights T.x_NoWeights rfl rfl throwsX)) pss_nil))
  (pss_cons (ps_set (i := 2) sc_best_rows.nd rfl (Or.inl rfl) (pe_call G_row_sums (hr.mono (by decide)) rfl T.m_row_sums T.F_row_sums.kp T.b_row_sums .nil pass0 (pa_cons (pv 0) (pa_cons (pv 1) pa_nil))))
  (pss_cons (ps_set (i := 3) sc_best_rows.nd rfl (Or.inr rfl) (pe_callB (call_minL rfl) rfl T.z_min PyProof.Rows.boot_min (pa_cons (pv 2) pa_nil)))
  (pss_one (ps_ret (pe_comp (sc := defScope s_best_rows) (N := ["table", "columns", "sums", "least"]) (Nc := ["i", "paid", "least"]) (cap := [none, none, some 3]) rfl rfl rfl (.of (by decide +kernel)) (pi_enum rfl T.z_enumerate (pa_cons (pv 2) pa_nil)) (fun _ _ _ _ => (pg_tup rfl (pgs_cons (pg_name (i := 0) (show List.Nodup (["i", "paid", "least"] : List Str) from by decide) rfl (Or.inl rfl)) (pgs_cons (pg_name (i := 1) (show List.Nodup (["i", "paid", "least"] : List Str) from by decide) rfl (Or.inl rfl)) pgs_nil)))) (fun _ _ _ _ => (pts_one (pt_cmpR op_eq (pv 1) (pv 2) (nomark _)))) (fun _ _ _ _ => (pv 0))))))))),
    rd_best_rows B hl hx lx q0 q1⟩
def t_best_columns_0 (K : PySem.W.Frag) : TS :=
  (tSeq (tAsg (tCall (spColSums K) [] E0 (tCons (tVar 0) (tCons (tVar 1) tNil))) (gName 2))
  (tSeq (tAsg (tCB (rMaxL K) (tCons (tVar 2) tNil)) (gName 3))
  (tRet (tComp (iEnum K (tCons (tVar 2) tNil)) (gTup K 2 (gCons (gName 0) (gCons (gName 1) gNil))) (tTest (tOp rEq (tVar 1) (tVar 2))) (tVar 0) [none, none, some 3]))))
theorem t_best_columns_0_eq (K : PySem.W.Frag) (D : Ends) (σ : St) (H : Hp) : t_best_columns_0 K D σ H = (tSeq (tAsg (tCall (spColSums K) [] E0 (tCons (tVar 0) (tCons (tVar 1) tNil))) (gName 2))
  (tSeq (tAsg (tCB (rMaxL K) (tCons (tVar 2) tNil)) (gName 3))
  (tRet (tComp (iEnum K (tCons (tVar 2) tNil)) (gTup K 2 (gCons (gName 0) (gCons (gName 1) gNil))) (tTest (tOp rEq (tVar 1) (tVar 2))) (tVar 0) [none, none, some 3])))) D σ H := rfl
def t_best_columns_1 (K : PySem.W.Frag) (a : Ad) (E : XK) : TS :=
  (tIfS (tNot (tB (tCall (spWeights K) [] E0 (tCons (tVar 1) (tCons (tCB (fun xs H Q => ∃ p ys, xs = [.ref p] ∧ (SqL K H p ys ∨ SqT K H p ys) ∧ Q (.int ys.length) H) (tCons (tVar 0) tNil)) tNil))))) (tRaise (.ref a.c_NoWeights) E) tNext)
theorem t_best_columns_1_eq (K : PySem.W.Frag) (a : Ad) (E : XK) (D : Ends) (σ : St) (H : Hp) : t_best_columns_1 K a E D σ H = (tIfS (tNot (tB (tCall (spWeights K) [] E0 (tCons (tVar 1) (tCons (tCB (fun xs H Q => ∃ p ys, xs = [.ref p] ∧ (SqL K H p ys ∨ SqT K H p ys) ∧ Q (.int ys.length) H) (tCons (tVar 0) tNil)) tNil))))) (tRaise (.ref a.c_NoWeights) E) tNext) D σ H := rfl
def t_best_columns (K : PySem.W.Frag) (a : Ad) (E : XK) : TS :=
  (tSeq (tDrop (tCall (spLookTab K) [] E0 (tCons (tVar 0) tNil)))
  (tSeq (tCut (t_best_columns_1 K a E))
  (t_best_columns_0 K)))
theorem rd_best_columns {t l : Addr} {rs : List Addr} {rows : List (List Int)} {w : Nat} {xs : List V} (B : Tb H t rs rows w) (hl : H l = some (.lst xs)) (hx : ∀ x ∈ xs, Wv x) (lx : xs.length ≤ 7) (q0 : good 1 xs rows w = false → ∀ H', Same H H' → E (.ref a.c_NoWeights) none H') (q1 : good 1 xs rows w = true → ∀ (r : Addr) (m : Int) (H' : Hp), Same H H' → H r = none → Best 1 (sms 1 xs rows w) m → H' r = some (.lst ((idx (sms 1 xs rows w) m).map V.int)) → Q (.ref r) H') :
    t_best_columns K a E { nx := fun _ H' => Q .non H', rt := Q } (L2.start ["table", "rows", "sums", "most"] [.ref t, .ref l]) H := by
  unfold t_best_columns
  simp only [t_best_columns_0_eq,t_best_columns_1_eq,↓tVar_c0,↓tVar_c1,↓tVar_c2,↓rI_c,↓rI0_c,↓ex_bl,↓ex_int,↓ex_ref,↓ex_l1i,↓ex_l1r,↓iEnum,↓tComp_eq,↓rMaxL,capS,↓rAppend,Option.bind_some,Option.bind_none,Option.join_some,Option.map_some,List.getElem?_cons_zero,List.getElem?_cons_succ,↓tRaise,V.str.injEq,V.ty.injEq,↓tFor_eq,↓tSeq,↓tNext,↓tAsg,↓gName,↓gTup,↓gCons,↓gNil,↓tCB,↓tCons,↓tNil,tVar,↓tC,↓tOp,↓tTest,↓tB,↓tNot,↓tIfS,↓tRet,↓tDrop,↓tCall,rI,rI0,↓rEq,L2.start,truV_int,truV_bl,scal_int,scal_bl,List.map_cons,List.map_nil,List.length_cons,List.length_nil,List.replicate,List.cons_append,List.nil_append,List.append_nil,Option.some.injEq,exists_eq_left',exists_eq_left,exists_and_left,List.cons.injEq,V.int.injEq,V.ref.injEq,V.bl.injEq,and_true,true_and,List.set_cons_zero,List.set_cons_succ,Nat.reduceAdd,Nat.reduceSub,Int.reduceToNat,Int.reducePow,Int.reduceNeg,Int.reduceMul,Int.reduceAdd,Int.reduceSub,decide_eq_true_eq,Bool.not_eq_true',decide_eq_false_iff_not,exists_const,and_assoc,exists_eq,exists_eq',if_true,if_false,Bool.false_eq_true,Bool.true_eq_false,reduceCtorEq,not_true_eq_false,not_false_eq_true]
  refine ⟨t, rs, rows, w, rfl, B, fun H1 s1 => ?_⟩
  have B1 := B.same s1
  refine ⟨fun σ H' => Same H H' ∧ good 1 xs rows w = true ∧ σ = [some (.ref t), some (.ref l), none, none], ?_, ?_⟩
  · simp only [t_best_columns_0_eq,t_best_columns_1_eq,↓tVar_c0,↓tVar_c1,↓tVar_c2,↓rI_c,↓rI0_c,↓ex_bl,↓ex_int,↓ex_ref,↓ex_l1i,↓ex_l1r,↓iEnum,↓tComp_eq,↓rMaxL,capS,↓rAppend,Option.bind_some,Option.bind_none,Option.join_some,Option.map_some,List.getElem?_cons_zero,List.getElem?_cons_succ,↓tRaise,V.str.injEq,V.ty.injEq,↓tFor_eq,↓tSeq,↓tNext,↓tAsg,↓gName,↓gTup,↓gCons,↓gNil,↓tCB,↓tCons,↓tNil,tVar,↓tC,↓tOp,↓tTest,↓tB,↓tNot,↓tIfS,↓tRet,↓tDrop,↓tCall,rI,rI0,↓rEq,L2.start,truV_int,truV_bl,scal_int,scal_bl,List.map_cons,List.map_nil,List.length_cons,List.length_nil,List.replicate,List.cons_append,List.nil_append,List.append_nil,Option.some.injEq,exists_eq_left',exists_eq_left,exists_and_left,List.cons.injEq,V.int.injEq,V.ref.injEq,V.bl.injEq,and_true,true_and,List.set_cons_zero,List.set_cons_succ,Nat.reduceAdd,Nat.reduceSub,Int.reduceToNat,Int.reducePow,Int.reduceNeg,Int.reduceMul,Int.reduceAdd,Int.reduceSub,decide_eq_true_eq,Bool.not_eq_true',decide_eq_false_iff_not,exists_const,and_assoc,exists_eq,exists_eq',if_true,if_false,Bool.false_eq_true,Bool.true_eq_false,reduceCtorEq,not_true_eq_false,not_false_eq_true]
    refine ⟨_, .inl (SqL.of B1.ht), l, xs, _, rfl, s1 _ _ hl, hx, lx, fun H2 s2 => ⟨_, rfl, ?_⟩⟩
    rw [List.length_map, B.len]
    exact ite2 (fun c => q0 c _ (s1.trans s2)) (fun c => ⟨s1.trans s2, eq_true_of_ne_false c⟩)
  · rintro σ H2 ⟨s2, g2, rfl⟩
    obtain ⟨g3, g4, g5⟩ := gw_parts (show gw xs rows.length = true from g2)
    simp only [t_best_columns_0_eq,t_best_columns_1_eq,↓tVar_c0,↓tVar_c1,↓tVar_c2,↓rI_c,↓rI0_c,↓ex_bl,↓ex_int,↓ex_ref,↓ex_l1i,↓ex_l1r,↓iEnum,↓tComp_eq,↓rMaxL,capS,↓rAppend,Option.bind_some,Option.bind_none,Option.join_some,Option.map_some,List.getElem?_cons_zero,List.getElem?_cons_succ,↓tRaise,V.str.injEq,V.ty.injEq,↓tFor_eq,↓tSeq,↓tNext,↓tAsg,↓gName,↓gTup,↓gCons,↓gNil,↓tCB,↓tCons,↓tNil,tVar,↓tC,↓tOp,↓tTest,↓tB,↓tNot,↓tIfS,↓tRet,↓tDrop,↓tCall,rI,rI0,↓rEq,L2.start,truV_int,truV_bl,scal_int,scal_bl,List.map_cons,List.map_nil,List.length_cons,List.length_nil,List.replicate,List.cons_append,List.nil_append,List.append_nil,Option.some.injEq,exists_eq_left',exists_eq_left,exists_and_left,List.cons.injEq,V.int.injEq,V.ref.injEq,V.bl.injEq,and_true,true_and,List.set_cons_zero,List.set_cons_succ,Nat.reduceAdd,Nat.reduceSub,Int.reduceToNat,Int.reducePow,Int.reduceNeg,Int.reduceMul,Int.reduceAdd,Int.reduceSub,decide_eq_true_eq,Bool.not_eq_true',decide_eq_false_iff_not,exists_const,and_assoc,exists_eq,exists_eq',if_true,if_false,Bool.false_eq_true,Bool.true_eq_false,reduceCtorEq,not_true_eq_false,not_false_eq_true]
    refine ⟨t, l, rs, rows, w, xs.map iv, rfl, B.same s2, by rw [← g4]; exact s2 _ _ hl, by rw [List.length_map]; omega, wv_small hx, fun r H3 s3 hr => ?_⟩
    have l1 := B.w1
    have l6 := B.w6
    have ls : (csums (xs.map iv) rows w).length = w := by
      unfold csums
      rw [List.length_map, List.length_range]
    simp only [t_best_columns_0_eq,t_best_columns_1_eq,↓tVar_c0,↓tVar_c1,↓tVar_c2,↓rI_c,↓rI0_c,↓ex_bl,↓ex_int,↓ex_ref,↓ex_l1i,↓ex_l1r,↓iEnum,↓tComp_eq,↓rMaxL,capS,↓rAppend,Option.bind_some,Option.bind_none,Option.join_some,Option.map_some,List.getElem?_cons_zero,List.getElem?_cons_succ,↓tRaise,V.str.injEq,V.ty.injEq,↓tFor_eq,↓tSeq,↓tNext,↓tAsg,↓gName,↓gTup,↓gCons,↓gNil,↓tCB,↓tCons,↓tNil,tVar,↓tC,↓tOp,↓tTest,↓tB,↓tNot,↓tIfS,↓tRet,↓tDrop,↓tCall,rI,rI0,↓rEq,L2.start,truV_int,truV_bl,scal_int,scal_bl,List.map_cons,List.map_nil,List.length_cons,List.length_nil,List.replicate,List.cons_append,List.nil_append,List.append_nil,Option.some.injEq,exists_eq_left',exists_eq_left,exists_and_left,List.cons.injEq,V.int.injEq,V.ref.injEq,V.bl.injEq,and_true,true_and,List.set_cons_zero,List.set_cons_succ,Nat.reduceAdd,Nat.reduceSub,Int.reduceToNat,Int.reducePow,Int.reduceNeg,Int.reduceMul,Int.reduceAdd,Int.reduceSub,decide_eq_true_eq,Bool.not_eq_true',decide_eq_false_iff_not,exists_const,and_assoc,exists_eq,exists_eq',if_true,if_false,Bool.false_eq_true,Bool.true_eq_false,reduceCtorEq,not_true_eq_false,not_false_eq_true]
    refine ⟨_, SqL.of hr, by omega, fun m m1 m2 => ⟨⟨_, SqL.of hr⟩, fun D hD => ?_⟩⟩
    have hD0 : H D = none := (s2.trans s3).free hD
    exact comp_idx hr hD (by omega) fun H4 s4 h4 => q1 g2 D m H4 ((s2.trans s3).trans s4) hD0 ⟨m1, fun b hb => ⟨fun z => absurd z (by decide), fun _ => m2 b hb⟩⟩ h4
theorem sc_best_columns : FnScope ["table", "rows", "sums", "most"] ["table", "rows"] (defScope s_best_columns) := ⟨rfl, rfl, rfl, by decide +kernel, rfl, by decide +kernel, by decide +kernel⟩
theorem ok_best_columns (T : Txt K mg a) : FnOk P w K mg base (CXE P w) 5 a.f_best_columns a.d_best_columns ["table", "rows"] (spBestCols K a) := by
  have G_are_weights := ok_are_weights (P := P) (w := w) (base := base) T
  have G_column_sums := ok_column_sums (P := P) (w := w) (base := base) T
  have G_look_table := ok_look_table (P := P) (w := w) (base := base) T
  refine T.F_best_columns.okX sc_best_columns (fun vs H Q E h => ?_) (fun cdv A outer s H vs Q E hr h => ?_)
  · obtain ⟨t, l, rs, rows, w, xs, rfl, B, hl, hx, lx, q0, q1⟩ := h
    rfl
  obtain ⟨t, l, rs, rows, w, xs, rfl, B, hl, hx, lx, q0, q1⟩ := h
  exact ⟨t_best_columns K a E, (pss_cons (ps_expr (pe_call G_look_table (hr.mono (by decide)) rfl T.m_look_table T.F_look_table.kp T.b_look_table .nil pass0 (pa_cons (pv 0) pa_nil)))
  (pss_cons (ps_cut (ps_if (pt_not (pt_val (pe_call G_are_weights (hr.mono (by decide)) rfl T.m_are_weights T.F_are_weights.kp T.b_are_weights .nil pass0 (pa_cons (pv 1) (pa_cons (pe_callB call_len_seq rfl T.z_len PySem.boot_len (pa_cons (pv 0) pa_nil)) pa_nil))))) (pss_one (ps_raise T.m_NoWeights T.x_NoWeights rfl rfl throwsX)) pss_nil))
  (pss_cons (ps_set (i := 2) sc_best_columns.nd rfl (Or.inl rfl) (pe_call G_column_sums (hr.mono (by decide)) rfl T.m_column_sums T.F_column_sums.kp T.b_column_sums .nil pass0 (pa_cons (pv 0) (pa_cons (pv 1) pa_nil))))
  (pss_cons (ps_set (i := 3) sc_best_columns.nd rfl (Or.inr rfl) (pe_callB (call_maxL rfl) rfl T.z_max PyProof.Rows.boot_max (pa_cons (pv 2) pa_nil)))
  (pss_one (ps_ret (pe_comp (sc := defScope s_best_columns) (N := ["table", "rows", "sums", "most"]) (Nc := ["j", "paid", "most"]) (cap := [none, none, some 3]) rfl rfl rfl (.of (by decide +kernel)) (pi_enum rfl T.z_enumerate (pa_cons (pv 2) pa_nil)) (fun _ _ _ _ => (pg_tup rfl (pgs_cons (pg_name (i := 0) (show List.Nodup (["j", "paid", "most"] : List Str) from by decide) rfl (Or.inl rfl)) (pgs_cons (pg_name (i := 1) (show List.Nodup (["j", "paid", "most"] : List Str) from by decide) rfl (Or.inl rfl)) pgs_nil)))) (fun _ _ _ _ => (pts_one (pt_cmpR op_eq (pv 1) (pv 2) (nomark _)))) (fun _ _ _ _ => (pv 0))))))))),
    rd_best_columns B hl hx lx q0 q1⟩
def t__law_mix : TS :=
  (tSeq (tAsg (tOp (rI (fun _ j => 0 < j) fun i j => .int (i % j)) (tOp (rI IntMulOk fun i j => .int (i * j)) (tOp (rI0 fun i j => .int (i + j)) (tOp (rI0 fun i j => .int (i + j)) (tOp (rI IntMulOk fun i j => .int (i * j)) (tVar 0) (tVar 0)) (tOp (rI IntMulOk fun i j => .int (i * j)) (tVar 1) (tVar 0))) (tOp (rI IntMulOk fun i j => .int (i * j)) (tOp (rI IntMulOk fun i j => .int (i * j)) (tC (.int 7)) (tVar 1)) (tVar 1))) (tC (.int 1103515245))) (tC (.int 2147483629))) (gName 2))
  (tRet (tOp (rI (fun _ j => 0 < j) fun i j => .int (i % j)) (tOp (rI IntMulOk fun i j => .int (i * j)) (tVar 2) (tVar 2)) (tC (.int 2147483587)))))
theorem rd__law_mix {n k : Int} (hn : n.natAbs < 2 ^ 2 ^ 20) (k0 : 0 ≤ k) (k1 : k ≤ 100000) (q : ∀ r : Int, 0 ≤ r → r < 2147483587 → Q (.int r) H) :
    t__law_mix { nx := fun _ H' => Q .non H', rt := Q } (L2.start ["_law_number", "_law_k", "_law_mixed"] [.int n, .int k]) H := by
  unfold t__law_mix
  simp only [↓tVar_c0,↓tVar_c1,↓tVar_c2,↓rI_c,↓rI0_c,↓rIxL_c,↓ex_bl,↓ex_int,↓ex_ref,↓ex_l1i,↓ex_l1r,↓tComp_eq,capS,↓rAppend,Option.bind_some,Option.bind_none,Option.join_some,Option.map_some,List.getElem?_cons_zero,List.getElem?_cons_succ,V.str.injEq,V.ty.injEq,↓tFor_eq,↓tSeq,↓tNext,↓tAsg,↓gName,↓tCB,↓tCons,↓tNil,tVar,↓tC,↓tOp,↓tTest,↓tIfS,↓tRet,rI,rI0,rIxL,L2.start,truV_int,truV_bl,scal_int,scal_bl,List.map_cons,List.map_nil,List.length_cons,List.length_nil,List.replicate,List.cons_append,List.nil_append,List.append_nil,Option.some.injEq,exists_eq_left',exists_eq_left,exists_and_left,List.cons.injEq,V.int.injEq,V.ref.injEq,V.bl.injEq,and_true,true_and,List.set_cons_zero,List.set_cons_succ,Nat.reduceAdd,Nat.reduceSub,Int.reduceToNat,Int.reducePow,Int.reduceNeg,Int.reduceMul,Int.reduceAdd,Int.reduceSub,decide_eq_true_eq,Bool.not_eq_true',decide_eq_false_iff_not,exists_const,and_assoc,exists_eq,exists_eq',if_true,if_false,Bool.false_eq_true,Bool.true_eq_false,reduceCtorEq,not_true_eq_false,not_false_eq_true]
  refine ⟨mulB 1048576 1048576 hn hn, mulL (by omega) (by omega), mulR (by omega) (by omega), mulR (by omega) (by omega), mulR (by decide) (by decide), by decide, ?_⟩
  have b3 := Int.emod_nonneg ((n * n + k * n + 7 * k * k) * 1103515245) (show (2147483629 : Int) ≠ 0 by decide)
  have b4 := Int.emod_lt_of_pos ((n * n + k * n + 7 * k * k) * 1103515245) (show (0 : Int) < 2147483629 by decide)
  generalize (n * n + k * n + 7 * k * k) * 1103515245 % 2147483629 = x at b3 b4 ⊢
  refine ⟨mulR (by omega) (by omega), by decide, q _ (Int.emod_nonneg _ (by decide)) (Int.emod_lt_of_pos _ (by decide))⟩
theorem sc__law_mix : FnScope ["_law_number", "_law_k", "_law_mixed"] ["_law_number", "_law_k"] (defScope s__law_mix) := ⟨rfl, rfl, rfl, by decide +kernel, rfl, by decide +kernel, by decide +kernel⟩
theorem ok__law_mix (T : Txt K mg a) : FnOk P w K mg base CX0 1 a.f__law_mix a.d__law_mix ["_law_number", "_law_k"] spMix := by
  refine T.F__law_mix.ok sc__law_mix (fun vs H Q E h => ?_) (fun cdv A outer s H vs Q E hr h => ?_)
  · obtain ⟨n, k, rfl, hn, k0, k1, q⟩ := h
    rfl
  obtain ⟨n, k, rfl, hn, k0, k1, q⟩ := h
  exact ⟨t__law_mix, (pss_cons (ps_set (i := 2) sc__law_mix.nd rfl (Or.inl rfl) (pe_op op_mod (pe_op op_mulG (pe_op op_add (pe_op op_add (pe_op op_mulG (pv 0) (pv 0)) (pe_op op_mulG (pv 1) (pv 0))) (pe_op op_mulG (pe_op op_mulG pe_int (pv 1)) (pv 1))) pe_int) pe_int))
  (pss_one (ps_ret (pe_op op_mod (pe_op op_mulG (pv 2) (pv 2)) pe_int)))),
    rd__law_mix hn k0 k1 q⟩
def t__law_cell_at_0 (K : PySem.W.Frag) : TS :=
  (tIfS (tTest (tOp (rI0 fun i j => .bl (decide (i < j))) (tVar 1) (tCB (fun xs H Q => ∃ p ys, xs = [.ref p] ∧ (SqL K H p ys ∨ SqT K H p ys) ∧ Q (.int ys.length) H) (tCons (tVar 0) tNil)))) (tRet (tOp (rIxL K) (tVar 0) (tVar 1))) tNext)
theorem t__law_cell_at_0_eq (K : PySem.W.Frag) (D : Ends) (σ : St) (H : Hp) : t__law_cell_at_0 K D σ H = (tIfS (tTest (tOp (rI0 fun i j => .bl (decide (i < j))) (tVar 1) (tCB (fun xs H Q => ∃ p ys, xs = [.ref p] ∧ (SqL K H p ys ∨ SqT K H p ys) ∧ Q (.int ys.length) H) (tCons (tVar 0) tNil)))) (tRet (tOp (rIxL K) (tVar 0) (tVar 1))) tNext) D σ H := rfl
def t__law_cell_at (K : PySem.W.Frag) : TS :=
  (tSeq (tCut (t__law_cell_at_0 K))
  (tRet (tC (.int 0))))
theorem rd__law_cell_at {p : Addr} {x : Int} (hp : H p = some (.lst [.int x])) (q : Q (.int x) H) :
    t__law_cell_at K { nx := fun _ H' => Q .non H', rt := Q } (L2.start ["_law_script", "_law_k"] [.ref p, .int 0]) H := by
  unfold t__law_cell_at
  simp only [t__law_cell_at_0_eq,↓tVar_c0,↓tVar_c1,↓tVar_c2,↓rI_c,↓rI0_c,↓rIxL_c,↓ex_bl,↓ex_int,↓ex_ref,↓ex_l1i,↓ex_l1r,↓tComp_eq,capS,↓rAppend,Option.bind_some,Option.bind_none,Option.join_some,Option.map_some,List.getElem?_cons_zero,List.getElem?_cons_succ,V.str.injEq,V.ty.injEq,↓tFor_eq,↓tSeq,↓tNext,↓tAsg,↓gName,↓tCB,↓tCons,↓tNil,tVar,↓tC,↓tOp,↓tTest,↓tIfS,↓tRet,↓tLst,↓tCall,rI,rI0,rIxL,L2.start,truV_int,truV_bl,scal_int,scal_bl,List.map_cons,List.map_nil,List.length_cons,List.length_nil,List.replicate,List.cons_append,List.nil_append,List.append_nil,Option.some.injEq,exists_eq_left',exists_eq_left,exists_and_left,List.cons.injEq,V.int.injEq,V.ref.injEq,V.bl.injEq,and_true,true_and,List.set_cons_zero,List.set_cons_succ,Nat.reduceAdd,Nat.reduceSub,Int.reduceToNat,Int.reducePow,Int.reduceNeg,Int.reduceMul,Int.reduceAdd,Int.reduceSub,decide_eq_true_eq,Bool.not_eq_true',decide_eq_false_iff_not,exists_const,and_assoc,exists_eq,exists_eq',if_true,if_false,Bool.false_eq_true,Bool.true_eq_false,reduceCtorEq,not_true_eq_false,not_false_eq_true]
  refine ⟨fun _ _ => False, ?_, fun _ _ z => z.elim⟩
  simp only [t__law_cell_at_0_eq,↓tVar_c0,↓tVar_c1,↓tVar_c2,↓rI_c,↓rI0_c,↓rIxL_c,↓ex_bl,↓ex_int,↓ex_ref,↓ex_l1i,↓ex_l1r,↓tComp_eq,capS,↓rAppend,Option.bind_some,Option.bind_none,Option.join_some,Option.map_some,List.getElem?_cons_zero,List.getElem?_cons_succ,V.str.injEq,V.ty.injEq,↓tFor_eq,↓tSeq,↓tNext,↓tAsg,↓gName,↓tCB,↓tCons,↓tNil,tVar,↓tC,↓tOp,↓tTest,↓tIfS,↓tRet,↓tLst,↓tCall,rI,rI0,rIxL,L2.start,truV_int,truV_bl,scal_int,scal_bl,List.map_cons,List.map_nil,List.length_cons,List.length_nil,List.replicate,List.cons_append,List.nil_append,List.append_nil,Option.some.injEq,exists_eq_left',exists_eq_left,exists_and_left,List.cons.injEq,V.int.injEq,V.ref.injEq,V.bl.injEq,and_true,true_and,List.set_cons_zero,List.set_cons_succ,Nat.reduceAdd,Nat.reduceSub,Int.reduceToNat,Int.reducePow,Int.reduceNeg,Int.reduceMul,Int.reduceAdd,Int.reduceSub,decide_eq_true_eq,Bool.not_eq_true',decide_eq_false_iff_not,exists_const,and_assoc,exists_eq,exists_eq',if_true,if_false,Bool.false_eq_true,Bool.true_eq_false,reduceCtorEq,not_true_eq_false,not_false_eq_true]
  refine ⟨_, .inl (SqL.of hp), ?_⟩
  exact ite2 (fun _ => ⟨_, SqL.of hp, _, rfl, q⟩) (fun z => absurd (show (0 : Int) < 1 by decide) z)
theorem sc__law_cell_at : FnScope ["_law_script", "_law_k"] ["_law_script", "_law_k"] (defScope s__law_cell_at) := ⟨rfl, rfl, rfl, by decide +kernel, rfl, by decide +kernel, by decide +kernel⟩
theorem ok__law_cell_at (T : Txt K mg a) : FnOk P w K mg base CX0 1 a.f__law_cell_at a.d__law_cell_at ["_law_script", "_law_k"] (spCellAt K) := by
  refine T.F__law_cell_at.ok sc__law_cell_at (fun vs H Q E h => ?_) (fun cdv A outer s H vs Q E hr h => ?_)
  · obtain ⟨p, x, rfl, hp, q⟩ := h
    rfl
  obtain ⟨p, x, rfl, hp, q⟩ := h
  exact ⟨t__law_cell_at K, (pss_cons (ps_cut (ps_if (pt_cmpR op_lt (pv 1) (pe_callB call_len_seq rfl T.z_len PySem.boot_len (pa_cons (pv 0) pa_nil)) (nomark _)) (pss_one (ps_ret (pe_ix ix_list (pv 0) (pv 1) (fun _ _ => rfl)))) pss_nil))
  (pss_one (ps_ret pe_int))),
    rd__law_cell_at hp q⟩
def t__law_left_0 : TS :=
  (tRet (tLst (tCons (tOp (rI0 fun i j => .int (i - j)) (tVar 2) (tOp (rI CPow fun i j => .int (i ^ j.toNat)) (tC (.int 10)) (tC (.int 18)))) (tCons (tC (.int 1)) (tCons (tC (.int 0)) tNil)))))
theorem t__law_left_0_eq (D : Ends) (σ : St) (H : Hp) : t__law_left_0 D σ H = (tRet (tLst (tCons (tOp (rI0 fun i j => .int (i - j)) (tVar 2) (tOp (rI CPow fun i j => .int (i ^ j.toNat)) (tC (.int 10)) (tC (.int 18)))) (tCons (tC (.int 1)) (tCons (tC (.int 0)) tNil))))) D σ H := rfl
def t__law_left_1 : TS :=
  (tIfS (tTest (tOp (rI0 fun i j => .bl (decide (i < j))) (tVar 2) (tOp (rI CPow fun i j => .int (i ^ j.toNat)) (tC (.int 10)) (tC (.int 18))))) (tRet (tLst (tCons (tVar 2) (tCons (tC (.int 0)) (tCons (tC (.int 0)) tNil))))) tNext)
theorem t__law_left_1_eq (D : Ends) (σ : St) (H : Hp) : t__law_left_1 D σ H = (tIfS (tTest (tOp (rI0 fun i j => .bl (decide (i < j))) (tVar 2) (tOp (rI CPow fun i j => .int (i ^ j.toNat)) (tC (.int 10)) (tC (.int 18))))) (tRet (tLst (tCons (tVar 2) (tCons (tC (.int 0)) (tCons (tC (.int 0)) tNil))))) tNext) D σ H := rfl
def t__law_left (K : PySem.W.Frag) : TS :=
  (tSeq (tAsg (tCall (spCellAt K) [] E0 (tCons (tVar 0) (tCons (tVar 1) tNil))) (gName 2))
  (tSeq (tCut (t__law_left_1))
  (t__law_left_0)))
theorem rd__law_left {p : Addr} {x : Int} (hp : H p = some (.lst [.int x])) (bx : x.natAbs < 2 ^ 2 ^ 20) (q : ∀ (l : Addr) (H' : Hp), Same H H' → H l = none → Drw H' l 0 → Q (.ref l) H') :
    t__law_left K { nx := fun _ H' => Q .non H', rt := Q } (L2.start ["_law_script", "_law_k", "_law_cell"] [.ref p, .int 0]) H := by
  unfold t__law_left
  simp only [t__law_left_0_eq,t__law_left_1_eq,↓tVar_c0,↓tVar_c1,↓tVar_c2,↓tVar_c3,↓rI_c,↓rI0_c,↓rIxL_c,↓ex_bl,↓ex_int,↓ex_ref,↓ex_l1i,↓ex_l1r,↓tComp_eq,capS,↓gSub,↓rSetL,↓rAppend,Option.bind_some,Option.bind_none,Option.join_some,Option.map_some,List.getElem?_cons_zero,List.getElem?_cons_succ,V.str.injEq,V.ty.injEq,↓tFor_eq,↓tSeq,↓tNext,↓tAsg,↓gName,↓tCons,↓tNil,tVar,↓tC,↓tOp,↓tTest,↓tIfS,↓tRet,↓tLst,↓tCall,rI,rI0,↓rEq,rIxL,L2.start,truV_int,truV_bl,scal_int,scal_bl,List.map_cons,List.map_nil,List.length_cons,List.length_nil,List.replicate,List.cons_append,List.nil_append,List.append_nil,Option.some.injEq,exists_eq_left',exists_eq_left,exists_and_left,List.cons.injEq,V.int.injEq,V.ref.injEq,V.bl.injEq,and_true,true_and,List.set_cons_zero,List.set_cons_succ,Nat.reduceAdd,Nat.reduceSub,Int.reduceToNat,Int.reducePow,Int.reduceNeg,Int.reduceMul,Int.reduceAdd,Int.reduceSub,decide_eq_true_eq,Bool.not_eq_true',decide_eq_false_iff_not,exists_const,and_assoc,exists_eq,exists_eq',if_true,if_false,Bool.false_eq_true,Bool.true_eq_false,reduceCtorEq,not_true_eq_false,not_false_eq_true]
  refine ⟨p, x, rfl, hp, ?_⟩
  refine ⟨fun σ H' => H' = H ∧ 1000000000000000000 ≤ x ∧ σ = [some (.ref p), some (.int 0), some (.int x)], ?_, ?_⟩
  · simp only [t__law_left_0_eq,t__law_left_1_eq,↓tVar_c0,↓tVar_c1,↓tVar_c2,↓tVar_c3,↓rI_c,↓rI0_c,↓rIxL_c,↓ex_bl,↓ex_int,↓ex_ref,↓ex_l1i,↓ex_l1r,↓tComp_eq,capS,↓gSub,↓rSetL,↓rAppend,Option.bind_some,Option.bind_none,Option.join_some,Option.map_some,List.getElem?_cons_zero,List.getElem?_cons_succ,V.str.injEq,V.ty.injEq,↓tFor_eq,↓tSeq,↓tNext,↓tAsg,↓gName,↓tCons,↓tNil,tVar,↓tC,↓tOp,↓tTest,↓tIfS,↓tRet,↓tLst,↓tCall,rI,rI0,↓rEq,rIxL,L2.start,truV_int,truV_bl,scal_int,scal_bl,List.map_cons,List.map_nil,List.length_cons,List.length_nil,List.replicate,List.cons_append,List.nil_append,List.append_nil,Option.some.injEq,exists_eq_left',exists_eq_left,exists_and_left,List.cons.injEq,V.int.injEq,V.ref.injEq,V.bl.injEq,and_true,true_and,List.set_cons_zero,List.set_cons_succ,Nat.reduceAdd,Nat.reduceSub,Int.reduceToNat,Int.reducePow,Int.reduceNeg,Int.reduceMul,Int.reduceAdd,Int.reduceSub,decide_eq_true_eq,Bool.not_eq_true',decide_eq_false_iff_not,exists_const,and_assoc,exists_eq,exists_eq',if_true,if_false,Bool.false_eq_true,Bool.true_eq_false,reduceCtorEq,not_true_eq_false,not_false_eq_true]
    refine ⟨pow18, ite2 (fun c => ⟨by decide, fun l hl => ?_⟩) (fun c => by omega)⟩
    exact q l _ (same_new hl _) hl ⟨⟨x, 0, upd_same, bx, .inl rfl⟩, by decide⟩
  · rintro σ H1 ⟨rfl, c, rfl⟩
    simp only [t__law_left_0_eq,t__law_left_1_eq,↓tVar_c0,↓tVar_c1,↓tVar_c2,↓tVar_c3,↓rI_c,↓rI0_c,↓rIxL_c,↓ex_bl,↓ex_int,↓ex_ref,↓ex_l1i,↓ex_l1r,↓tComp_eq,capS,↓gSub,↓rSetL,↓rAppend,Option.bind_some,Option.bind_none,Option.join_some,Option.map_some,List.getElem?_cons_zero,List.getElem?_cons_succ,V.str.injEq,V.ty.injEq,↓tFor_eq,↓tSeq,↓tNext,↓tAsg,↓gName,↓tCons,↓tNil,tVar,↓tC,↓tOp,↓tTest,↓tIfS,↓tRet,↓tLst,↓tCall,rI,rI0,↓rEq,rIxL,L2.start,truV_int,truV_bl,scal_int,scal_bl,List.map_cons,List.map_nil,List.length_cons,List.length_nil,List.replicate,List.cons_append,List.nil_append,List.append_nil,Option.some.injEq,exists_eq_left',exists_eq_left,exists_and_left,List.cons.injEq,V.int.injEq,V.ref.injEq,V.bl.injEq,and_true,true_and,List.set_cons_zero,List.set_cons_succ,Nat.reduceAdd,Nat.reduceSub,Int.reduceToNat,Int.reducePow,Int.reduceNeg,Int.reduceMul,Int.reduceAdd,Int.reduceSub,decide_eq_true_eq,Bool.not_eq_true',decide_eq_false_iff_not,exists_const,and_assoc,exists_eq,exists_eq',if_true,if_false,Bool.false_eq_true,Bool.true_eq_false,reduceCtorEq,not_true_eq_false,not_false_eq_true]
    refine ⟨pow18, by decide, fun l hl => ?_⟩
    exact q l _ (same_new hl _) hl ⟨⟨_, 1, upd_same, Nat.lt_of_le_of_lt (by omega) bx, .inr ⟨rfl, by omega⟩⟩, by decide⟩
theorem sc__law_left : FnScope ["_law_script", "_law_k", "_law_cell"] ["_law_script", "_law_k"] (defScope s__law_left) := ⟨rfl, rfl, rfl, by decide +kernel, rfl, by decide +kernel, by decide +kernel⟩
theorem ok__law_left (T : Txt K mg a) : FnOk P w K mg base CX0 2 a.f__law_left a.d__law_left ["_law_script", "_law_k"] (spLeft K) := by
  have G__law_cell_at := ok__law_cell_at (P := P) (w := w) (base := base) T
  refine T.F__law_left.ok sc__law_left (fun vs H Q E h => ?_) (fun cdv A outer s H vs Q E hr h => ?_)
  · obtain ⟨p, x, rfl, hp, bx, q⟩ := h
    rfl
  obtain ⟨p, x, rfl, hp, bx, q⟩ := h
  exact ⟨t__law_left K, (pss_cons (ps_set (i := 2) sc__law_left.nd rfl (Or.inl rfl) (pe_call G__law_cell_at (hr.mono (by decide)) rfl T.m__law_cell_at T.F__law_cell_at.kp T.b__law_cell_at .nil pass0 (pa_cons (pv 0) (pa_cons (pv 1) pa_nil))))
  (pss_cons (ps_cut (ps_if (pt_cmpR op_lt (pv 2) (pe_op op_pow pe_int pe_int) (nomark _)) (pss_one (ps_ret (pe_lst (pa_cons (pv 2) (pa_cons pe_int (pa_cons pe_int pa_nil)))))) pss_nil))
  (pss_one (ps_ret (pe_lst (pa_cons (pe_op op_sub (pv 2) (pe_op op_pow pe_int pe_int)) (pa_cons pe_int (pa_cons pe_int pa_nil)))))))),
    rd__law_left hp bx q⟩
theorem logM {m : Int} (h0 : 0 < m) (h1 : m ≤ 1000000000000000000000000000000) : m.natAbs.log2 < 9000 := log_lt 100 (by omega) (by omega)
def t__law_draw_0 (K : PySem.W.Frag) : TS :=
  (tSeq (tAsg (tOp (rI (fun _ j => 0 < j) fun i j => .int (i % j)) (tOp (rIxL K) (tVar 0) (tC (.int 0))) (tVar 1)) (gName 3))
  (tSeq (tAsg (tOp (rI (fun _ j => 0 < j ∧ j.natAbs.log2 < 9000) fun i j => .int (i / j)) (tOp (rIxL K) (tVar 0) (tC (.int 0))) (tVar 1)) (gSub (tVar 0) (tC (.int 0)) rSetL))
  (tRet (tVar 3))))
theorem t__law_draw_0_eq (K : PySem.W.Frag) (D : Ends) (σ : St) (H : Hp) : t__law_draw_0 K D σ H = (tSeq (tAsg (tOp (rI (fun _ j => 0 < j) fun i j => .int (i % j)) (tOp (rIxL K) (tVar 0) (tC (.int 0))) (tVar 1)) (gName 3))
  (tSeq (tAsg (tOp (rI (fun _ j => 0 < j ∧ j.natAbs.log2 < 9000) fun i j => .int (i / j)) (tOp (rIxL K) (tVar 0) (tC (.int 0))) (tVar 1)) (gSub (tVar 0) (tC (.int 0)) rSetL))
  (tRet (tVar 3)))) D σ H := rfl
def t__law_draw_1 (K : PySem.W.Frag) : TS :=
  (tIfS (tTest (tOp rEq (tOp (rIxL K) (tVar 0) (tC (.int 1))) (tC (.int 0)))) (tSeq (tAsg (tCall spMix [] E0 (tCons (tOp (rIxL K) (tVar 0) (tC (.int 0))) (tCons (tOp (rIxL K) (tVar 0) (tC (.int 2))) tNil))) (gName 2))
  (tRet (tOp (rI (fun _ j => 0 < j) fun i j => .int (i % j)) (tOp (rI (fun _ j => 0 < j) fun i j => .int (i % j)) (tOp (rI IntMulOk fun i j => .int (i * j)) (tVar 2) (tOp (rI0 fun i j => .int (i + j)) (tVar 2) (tC (.int 2)))) (tC (.int 2147483579))) (tVar 1)))) tNext)
theorem t__law_draw_1_eq (K : PySem.W.Frag) (D : Ends) (σ : St) (H : Hp) : t__law_draw_1 K D σ H = (tIfS (tTest (tOp rEq (tOp (rIxL K) (tVar 0) (tC (.int 1))) (tC (.int 0)))) (tSeq (tAsg (tCall spMix [] E0 (tCons (tOp (rIxL K) (tVar 0) (tC (.int 0))) (tCons (tOp (rIxL K) (tVar 0) (tC (.int 2))) tNil))) (gName 2))
  (tRet (tOp (rI (fun _ j => 0 < j) fun i j => .int (i % j)) (tOp (rI (fun _ j => 0 < j) fun i j => .int (i % j)) (tOp (rI IntMulOk fun i j => .int (i * j)) (tVar 2) (tOp (rI0 fun i j => .int (i + j)) (tVar 2) (tC (.int 2)))) (tC (.int 2147483579))) (tVar 1)))) tNext) D σ H := rfl
def t__law_draw (K : PySem.W.Frag) : TS :=
  (tSeq (tAsg (tOp (rI0 fun i j => .int (i + j)) (tOp (rIxL K) (tVar 0) (tC (.int 2))) (tC (.int 1))) (gSub (tVar 0) (tC (.int 2)) rSetL))
  (tSeq (tCut (t__law_draw_1 K))
  (t__law_draw_0 K)))
theorem rd__law_draw {p : Addr} {c m : Int} (hP : Drw H p c) (c1 : c < 10000) (m0 : 0 < m) (m1 : m ≤ 1000000000000000000000000000000)
    (q : ∀ (r : Int) (H' : Hp), 0 ≤ r → r < m → Off p p H' = Off p p H → Drw H' p (c + 1) → Q (.int r) H') :
    t__law_draw K { nx := fun _ H' => Q .non H', rt := Q } (L2.start ["_law_left_here", "_law_base", "_law_mixed", "_law_digit"] [.ref p, .int m]) H := by
  unfold t__law_draw
  obtain ⟨n, f, hp, bn, hf⟩ := hP.hp
  have c0 := hP.c0
  simp only [t__law_draw_0_eq,t__law_draw_1_eq,↓tVar_c0,↓tVar_c1,↓tVar_c2,↓tVar_c3,↓tVar_c4,↓rI_c,↓rI0_c,↓rIxL_c,↓ex_bl,↓ex_int,↓ex_ref,↓ex_l1i,↓ex_l1r,↓tComp_eq,capS,↓tNoTest,↓gSub,↓rSetL,↓rAppend,Option.bind_some,Option.bind_none,Option.join_some,Option.map_some,List.getElem?_cons_zero,List.getElem?_cons_succ,V.str.injEq,V.ty.injEq,↓tBM,↓tFor_eq,↓iRng1,↓tSeq,↓tNext,↓tAsg,↓gName,↓tCons,↓tNil,tVar,↓tC,↓tOp,↓tTest,↓tIfS,↓tRet,↓tDrop,↓tLst,↓tCall,rI,rI0,↓rEq,rIxL,L2.start,truV_int,truV_bl,scal_int,scal_bl,List.map_cons,List.map_nil,List.length_cons,List.length_nil,List.replicate,List.cons_append,List.nil_append,List.append_nil,Option.some.injEq,exists_eq_left',exists_eq_left,exists_and_left,List.cons.injEq,V.int.injEq,V.ref.injEq,V.bl.injEq,and_true,true_and,List.set_cons_zero,List.set_cons_succ,Nat.reduceAdd,Nat.reduceSub,Int.reduceToNat,Int.reducePow,Int.reduceNeg,Int.reduceMul,Int.reduceAdd,Int.reduceSub,decide_eq_true_eq,Bool.not_eq_true',decide_eq_false_iff_not,exists_const,and_assoc,exists_eq,exists_eq',if_true,if_false,Bool.false_eq_true,Bool.true_eq_false,reduceCtorEq,not_true_eq_false,not_false_eq_true]
  refine ⟨_, SqL.of hp, _, rfl, _, rfl, _, hp, 2, rfl, ?_⟩
  simp only [t__law_draw_0_eq,t__law_draw_1_eq,↓tVar_c0,↓tVar_c1,↓tVar_c2,↓tVar_c3,↓tVar_c4,↓rI_c,↓rI0_c,↓rIxL_c,↓ex_bl,↓ex_int,↓ex_ref,↓ex_l1i,↓ex_l1r,↓tComp_eq,capS,↓tNoTest,↓gSub,↓rSetL,↓rAppend,Option.bind_some,Option.bind_none,Option.join_some,Option.map_some,List.getElem?_cons_zero,List.getElem?_cons_succ,V.str.injEq,V.ty.injEq,↓tBM,↓tFor_eq,↓iRng1,↓tSeq,↓tNext,↓tAsg,↓gName,↓tCons,↓tNil,tVar,↓tC,↓tOp,↓tTest,↓tIfS,↓tRet,↓tDrop,↓tLst,↓tCall,rI,rI0,↓rEq,rIxL,L2.start,truV_int,truV_bl,scal_int,scal_bl,List.map_cons,List.map_nil,List.length_cons,List.length_nil,List.replicate,List.cons_append,List.nil_append,List.append_nil,Option.some.injEq,exists_eq_left',exists_eq_left,exists_and_left,List.cons.injEq,V.int.injEq,V.ref.injEq,V.bl.injEq,and_true,true_and,List.set_cons_zero,List.set_cons_succ,Nat.reduceAdd,Nat.reduceSub,Int.reduceToNat,Int.reducePow,Int.reduceNeg,Int.reduceMul,Int.reduceAdd,Int.reduceSub,decide_eq_true_eq,Bool.not_eq_true',decide_eq_false_iff_not,exists_const,and_assoc,exists_eq,exists_eq',if_true,if_false,Bool.false_eq_true,Bool.true_eq_false,reduceCtorEq,not_true_eq_false,not_false_eq_true]
  have hp2 : (L2.upd H p (.lst [.int n, .int f, .int (c + 1)])) p = some (.lst [.int n, .int f, .int (c + 1)]) := upd_same
  have o2 : Off p p (L2.upd H p (.lst [.int n, .int f, .int (c + 1)])) = Off p p H := off_p
  generalize L2.upd H p (.lst [.int n, .int f, .int (c + 1)]) = G at hp2 o2 ⊢
  refine ⟨fun σ H' => H' = G ∧ f = 1 ∧ 0 ≤ n ∧ σ = [some (.ref p), some (.int m), none, none], ?_, ?_⟩
  · simp only [t__law_draw_0_eq,t__law_draw_1_eq,↓tVar_c0,↓tVar_c1,↓tVar_c2,↓tVar_c3,↓tVar_c4,↓rI_c,↓rI0_c,↓rIxL_c,↓ex_bl,↓ex_int,↓ex_ref,↓ex_l1i,↓ex_l1r,↓tComp_eq,capS,↓tNoTest,↓gSub,↓rSetL,↓rAppend,Option.bind_some,Option.bind_none,Option.join_some,Option.map_some,List.getElem?_cons_zero,List.getElem?_cons_succ,V.str.injEq,V.ty.injEq,↓tBM,↓tFor_eq,↓iRng1,↓tSeq,↓tNext,↓tAsg,↓gName,↓tCons,↓tNil,tVar,↓tC,↓tOp,↓tTest,↓tIfS,↓tRet,↓tDrop,↓tLst,↓tCall,rI,rI0,↓rEq,rIxL,L2.start,truV_int,truV_bl,scal_int,scal_bl,List.map_cons,List.map_nil,List.length_cons,List.length_nil,List.replicate,List.cons_append,List.nil_append,List.append_nil,Option.some.injEq,exists_eq_left',exists_eq_left,exists_and_left,List.cons.injEq,V.int.injEq,V.ref.injEq,V.bl.injEq,and_true,true_and,List.set_cons_zero,List.set_cons_succ,Nat.reduceAdd,Nat.reduceSub,Int.reduceToNat,Int.reducePow,Int.reduceNeg,Int.reduceMul,Int.reduceAdd,Int.reduceSub,decide_eq_true_eq,Bool.not_eq_true',decide_eq_false_iff_not,exists_const,and_assoc,exists_eq,exists_eq',if_true,if_false,Bool.false_eq_true,Bool.true_eq_false,reduceCtorEq,not_true_eq_false,not_false_eq_true]
    refine ⟨_, SqL.of hp2, _, rfl, rfl, ite2 (fun z => ?_) (fun z => ?_)⟩
    · refine ⟨_, SqL.of hp2, _, rfl, _, SqL.of hp2, _, rfl, n, c + 1, rfl, bn, by omega, by omega, fun x x0 x1 => ?_⟩
      refine ⟨x, rfl, x, rfl, mulR (by omega) (by omega), by decide, m0, ?_⟩
      exact q _ _ (Int.emod_nonneg _ (by omega)) (Int.emod_lt_of_pos _ m0) o2 ⟨⟨n, f, hp2, bn, hf⟩, by omega⟩
    · rcases hf with rfl | h
      · exact absurd rfl z
      · exact h
  · rintro σ H' ⟨rfl, rfl, n0, rfl⟩
    simp only [t__law_draw_0_eq,t__law_draw_1_eq,↓tVar_c0,↓tVar_c1,↓tVar_c2,↓tVar_c3,↓tVar_c4,↓rI_c,↓rI0_c,↓rIxL_c,↓ex_bl,↓ex_int,↓ex_ref,↓ex_l1i,↓ex_l1r,↓tComp_eq,capS,↓tNoTest,↓gSub,↓rSetL,↓rAppend,Option.bind_some,Option.bind_none,Option.join_some,Option.map_some,List.getElem?_cons_zero,List.getElem?_cons_succ,V.str.injEq,V.ty.injEq,↓tBM,↓tFor_eq,↓iRng1,↓tSeq,↓tNext,↓tAsg,↓gName,↓tCons,↓tNil,tVar,↓tC,↓tOp,↓tTest,↓tIfS,↓tRet,↓tDrop,↓tLst,↓tCall,rI,rI0,↓rEq,rIxL,L2.start,truV_int,truV_bl,scal_int,scal_bl,List.map_cons,List.map_nil,List.length_cons,List.length_nil,List.replicate,List.cons_append,List.nil_append,List.append_nil,Option.some.injEq,exists_eq_left',exists_eq_left,exists_and_left,List.cons.injEq,V.int.injEq,V.ref.injEq,V.bl.injEq,and_true,true_and,List.set_cons_zero,List.set_cons_succ,Nat.reduceAdd,Nat.reduceSub,Int.reduceToNat,Int.reducePow,Int.reduceNeg,Int.reduceMul,Int.reduceAdd,Int.reduceSub,decide_eq_true_eq,Bool.not_eq_true',decide_eq_false_iff_not,exists_const,and_assoc,exists_eq,exists_eq',if_true,if_false,Bool.false_eq_true,Bool.true_eq_false,reduceCtorEq,not_true_eq_false,not_false_eq_true]
    refine ⟨_, SqL.of hp2, _, rfl, n, rfl, m0, _, SqL.of hp2, _, rfl, n, rfl, m0, logM m0 m1, _, hp2, 0, rfl, ?_⟩
    have d0 : 0 ≤ n / m := Int.ediv_nonneg n0 (by omega)
    have d1 : n / m ≤ n := Int.ediv_le_self m n0
    exact q _ _ (Int.emod_nonneg _ (by omega)) (Int.emod_lt_of_pos _ m0) (off_p.trans o2) ⟨⟨n / m, 1, upd_same, Nat.lt_of_le_of_lt (by omega) bn, .inr ⟨rfl, d0⟩⟩, by omega⟩
theorem sc__law_draw : FnScope ["_law_left_here", "_law_base", "_law_mixed", "_law_digit"] ["_law_left_here", "_law_base"] (defScope s__law_draw) := ⟨rfl, rfl, rfl, by decide +kernel, rfl, by decide +kernel, by decide +kernel⟩
theorem ok__law_draw (T : Txt K mg a) : FnOk P w K mg base CX0 2 a.f__law_draw a.d__law_draw ["_law_left_here", "_law_base"] spDraw := by
  have G__law_mix := ok__law_mix (P := P) (w := w) (base := base) T
  refine T.F__law_draw.ok sc__law_draw (fun vs H Q E h => ?_) (fun cdv A outer s H vs Q E hr h => ?_)
  · obtain ⟨p, c, m, rfl, hP, c1, m0, m1, q⟩ := h
    rfl
  obtain ⟨p, c, m, rfl, hP, c1, m0, m1, q⟩ := h
  exact ⟨t__law_draw K, (pss_cons (ps_asg (pe_op op_add (pe_ix ix_list (pv 0) pe_int (fun _ _ => rfl)) pe_int) (pg_sub (pv 0) pe_int set_list))
  (pss_cons (ps_cut (ps_if (pt_cmpR op_eq (pe_ix ix_list (pv 0) pe_int (fun _ _ => rfl)) pe_int (nomark _)) (pss_cons (ps_set (i := 2) sc__law_draw.nd rfl (Or.inl rfl) (pe_call G__law_mix (hr.mono (by decide)) rfl T.m__law_mix T.F__law_mix.kp T.b__law_mix .nil pass0 (pa_cons (pe_ix ix_list (pv 0) pe_int (fun _ _ => rfl)) (pa_cons (pe_ix ix_list (pv 0) pe_int (fun _ _ => rfl)) pa_nil))))
  (pss_one (ps_ret (pe_op op_mod (pe_op op_mod (pe_op op_mulG (pv 2) (pe_op op_add (pv 2) pe_int)) pe_int) (pv 1))))) pss_nil))
  (pss_cons (ps_set (i := 3) sc__law_draw.nd rfl (Or.inl rfl) (pe_op op_mod (pe_ix ix_list (pv 0) pe_int (fun _ _ => rfl)) (pv 1)))
  (pss_cons (ps_asg (pe_op op_fdivP (pe_ix ix_list (pv 0) pe_int (fun _ _ => rfl)) (pv 1)) (pg_sub (pv 0) pe_int set_list))
  (pss_one (ps_ret (pv 3))))))),
    rd__law_draw hP c1 m0 m1 q⟩
theorem pow29 : CPow 10 29 := ⟨by decide, by decide, by decide⟩
theorem log2 : (0 : Int) < 2 ∧ (Int.natAbs 2).log2 < 9000 := by decide +kernel
def Rws (H : Hp) (D : Addr) (rs : List Addr) (rows : List (List Int)) : Prop := rs.length = rows.length ∧ ∀ (k : Nat) (r : Addr) (row : List Int), rs[k]? = some r → rows[k]? = some row → r ≠ D ∧ H r = some (.lst (row.map V.int))
theorem Rws.nil {H : Hp} {D : Addr} : Rws H D [] [] := ⟨rfl, fun _ _ _ e => nomatch e⟩
theorem Rws.put {H H' : Hp} {D b : Addr} {rs : List Addr} {rows : List (List Int)} {row : List Int} (h : Rws H D rs rows) (s : ∀ (x : Addr) (o : HO), x ≠ D → H x = some o → H' x = some o) (nb : b ≠ D) (hb : H' b = some (.lst (row.map V.int))) : Rws H' D (rs ++ [b]) (rows ++ [row]) := by
  refine ⟨by rw [List.length_append, List.length_append, h.1]; rfl, fun k r row' k1 k2 => ?_⟩
  by_cases ck : k < rs.length
  · rw [List.getElem?_append_left ck] at k1
    rw [List.getElem?_append_left (by rw [← h.1]; exact ck)] at k2
    obtain ⟨z1, z2⟩ := h.2 k r row' k1 k2
    exact ⟨z1, s _ _ z1 z2⟩
  · rw [List.getElem?_append_right (by omega)] at k1
    rw [List.getElem?_append_right (by rw [← h.1]; omega), ← h.1] at k2
    have zk : k - rs.length = 0 := by
      have := (List.getElem?_eq_some_iff.mp k1).1
      simp only [List.length_cons,List.length_nil] at this
      omega
    rw [zk] at k1 k2
    cases k1
    cases k2
    exact ⟨nb, hb⟩
def t__law_table_0 (K : PySem.W.Frag) : TS :=
  (tDrop (tBM K "list" rAppend (tVar 4) (tCons (tComp (iRng1 (tCons (tVar 2) tNil)) (gName 0) tNoTest (tOp (rI0 fun i j => .int (i - j)) (tCall spDraw [] E0 (tCons (tVar 1) (tCons (tVar 2) tNil))) (tOp (rI (fun _ j => 0 < j ∧ j.natAbs.log2 < 9000) fun i j => .int (i / j)) (tVar 2) (tC (.int 2)))) [none, some 0, some 3]) tNil)))
theorem t__law_table_0_eq (K : PySem.W.Frag) (D : Ends) (σ : St) (H : Hp) : t__law_table_0 K D σ H = (tDrop (tBM K "list" rAppend (tVar 4) (tCons (tComp (iRng1 (tCons (tVar 2) tNil)) (gName 0) tNoTest (tOp (rI0 fun i j => .int (i - j)) (tCall spDraw [] E0 (tCons (tVar 1) (tCons (tVar 2) tNil))) (tOp (rI (fun _ j => 0 < j ∧ j.natAbs.log2 < 9000) fun i j => .int (i / j)) (tVar 2) (tC (.int 2)))) [none, some 0, some 3]) tNil))) D σ H := rfl
def t__law_table (K : PySem.W.Frag) : TS :=
  (tSeq (tAsg (tOp (rI0 fun i j => .int (i + j)) (tC (.int 1)) (tCall spDraw [] E0 (tCons (tVar 0) (tCons (tC (.int 6)) tNil)))) (gName 1))
  (tSeq (tAsg (tOp (rI0 fun i j => .int (i + j)) (tC (.int 1)) (tCall spDraw [] E0 (tCons (tVar 0) (tCons (tC (.int 6)) tNil)))) (gName 2))
  (tSeq (tAsg (tOp (rIxL K) (tLst (tCons (tC (.int 3)) (tCons (tC (.int 7)) (tCons (tC (.int 19)) (tCons (tOp (rI0 fun i j => .int (i - j)) (tOp (rI IntMulOk fun i j => .int (i * j)) (tC (.int 2)) (tOp (rI CPow fun i j => .int (i ^ j.toNat)) (tC (.int 10)) (tC (.int 29)))) (tC (.int 1))) tNil))))) (tCall spDraw [] E0 (tCons (tVar 0) (tCons (tC (.int 4)) tNil)))) (gName 3))
  (tSeq (tAsg (tLst tNil) (gName 4))
  (tSeq (tFor (iRng1 (tCons (tVar 1) tNil)) (gName 5)
  (t__law_table_0 K))
  (tRet (tVar 4)))))))
theorem rd__law_table {p : Addr} {c : Int} (hP : Drw H p c) (c1 : c < 1000) (q : ∀ (t : Addr) (rs : List Addr) (rows : List (List Int)) (w : Nat) (c' : Int) (H' : Hp), Same (Off p p H) (Off p p H') → Drw H' p c' → c' ≤ c + 39 → Tb (Off p p H') t rs rows w → Q (.ref t) H') :
    t__law_table K { nx := fun _ H' => Q .non H', rt := Q } (L2.start ["_law_left_here", "_law_high", "_law_wide", "_law_base", "_law_table_here", "_law_i"] [.ref p]) H := by
  unfold t__law_table
  have c0 := hP.c0
  simp only [t__law_table_0_eq,↓tVar_c0,↓tVar_c1,↓tVar_c2,↓tVar_c4,↓rI_c,↓rI0_c,↓rIxL_c,↓ex_bl,↓ex_int,↓ex_ref,↓ex_l1i,↓ex_l1r,↓tComp_eq,capS,↓tNoTest,↓rAppend,Option.bind_some,Option.bind_none,Option.join_some,Option.map_some,List.getElem?_cons_zero,List.getElem?_cons_succ,V.str.injEq,V.ty.injEq,↓tBM,↓tFor_eq,↓iRng1,↓iList,↓tSeq,↓tNext,↓tAsg,↓gName,↓tCB,↓tCons,↓tNil,tVar,↓tC,↓tOp,↓tRet,↓tDrop,↓tLst,↓tCall,rI,rI0,rIxL,L2.start,truV_int,truV_bl,scal_int,scal_bl,List.map_cons,List.map_nil,List.length_cons,List.length_nil,List.replicate,List.cons_append,List.nil_append,List.append_nil,Option.some.injEq,exists_eq_left',exists_eq_left,exists_and_left,List.cons.injEq,V.int.injEq,V.ref.injEq,V.bl.injEq,and_true,true_and,List.set_cons_zero,List.set_cons_succ,Nat.reduceAdd,Nat.reduceSub,Int.reduceToNat,Int.reducePow,Int.reduceNeg,Int.reduceMul,Int.reduceAdd,Int.reduceSub,decide_eq_true_eq,Bool.not_eq_true',decide_eq_false_iff_not,exists_const,and_assoc,exists_eq,exists_eq',if_true,if_false,Bool.false_eq_true,Bool.true_eq_false,reduceCtorEq,not_true_eq_false,not_false_eq_true]
  refine ⟨p, c, 6, rfl, hP, by omega, by decide, by decide, fun r1 H1 a0 a1 o1 P1 => ?_⟩
  simp only [t__law_table_0_eq,↓tVar_c0,↓tVar_c1,↓tVar_c2,↓tVar_c4,↓rI_c,↓rI0_c,↓rIxL_c,↓ex_bl,↓ex_int,↓ex_ref,↓ex_l1i,↓ex_l1r,↓tComp_eq,capS,↓tNoTest,↓rAppend,Option.bind_some,Option.bind_none,Option.join_some,Option.map_some,List.getElem?_cons_zero,List.getElem?_cons_succ,V.str.injEq,V.ty.injEq,↓tBM,↓tFor_eq,↓iRng1,↓iList,↓tSeq,↓tNext,↓tAsg,↓gName,↓tCB,↓tCons,↓tNil,tVar,↓tC,↓tOp,↓tRet,↓tDrop,↓tLst,↓tCall,rI,rI0,rIxL,L2.start,truV_int,truV_bl,scal_int,scal_bl,List.map_cons,List.map_nil,List.length_cons,List.length_nil,List.replicate,List.cons_append,List.nil_append,List.append_nil,Option.some.injEq,exists_eq_left',exists_eq_left,exists_and_left,List.cons.injEq,V.int.injEq,V.ref.injEq,V.bl.injEq,and_true,true_and,List.set_cons_zero,List.set_cons_succ,Nat.reduceAdd,Nat.reduceSub,Int.reduceToNat,Int.reducePow,Int.reduceNeg,Int.reduceMul,Int.reduceAdd,Int.reduceSub,decide_eq_true_eq,Bool.not_eq_true',decide_eq_false_iff_not,exists_const,and_assoc,exists_eq,exists_eq',if_true,if_false,Bool.false_eq_true,Bool.true_eq_false,reduceCtorEq,not_true_eq_false,not_false_eq_true]
  refine ⟨p, c + 1, 6, rfl, P1, by omega, by decide, by decide, fun r2 H2 b0 b1 o2 P2 => ?_⟩
  simp only [t__law_table_0_eq,↓tVar_c0,↓tVar_c1,↓tVar_c2,↓tVar_c4,↓rI_c,↓rI0_c,↓rIxL_c,↓ex_bl,↓ex_int,↓ex_ref,↓ex_l1i,↓ex_l1r,↓tComp_eq,capS,↓tNoTest,↓rAppend,Option.bind_some,Option.bind_none,Option.join_some,Option.map_some,List.getElem?_cons_zero,List.getElem?_cons_succ,V.str.injEq,V.ty.injEq,↓tBM,↓tFor_eq,↓iRng1,↓iList,↓tSeq,↓tNext,↓tAsg,↓gName,↓tCB,↓tCons,↓tNil,tVar,↓tC,↓tOp,↓tRet,↓tDrop,↓tLst,↓tCall,rI,rI0,rIxL,L2.start,truV_int,truV_bl,scal_int,scal_bl,List.map_cons,List.map_nil,List.length_cons,List.length_nil,List.replicate,List.cons_append,List.nil_append,List.append_nil,Option.some.injEq,exists_eq_left',exists_eq_left,exists_and_left,List.cons.injEq,V.int.injEq,V.ref.injEq,V.bl.injEq,and_true,true_and,List.set_cons_zero,List.set_cons_succ,Nat.reduceAdd,Nat.reduceSub,Int.reduceToNat,Int.reducePow,Int.reduceNeg,Int.reduceMul,Int.reduceAdd,Int.reduceSub,decide_eq_true_eq,Bool.not_eq_true',decide_eq_false_iff_not,exists_const,and_assoc,exists_eq,exists_eq',if_true,if_false,Bool.false_eq_true,Bool.true_eq_false,reduceCtorEq,not_true_eq_false,not_false_eq_true]
  refine ⟨pow29, mulL (by decide) (by decide), by decide, fun d hd => ?_⟩
  have nd := P2.new hd
  have P3 := P2.upd (o := .lst [V.int 3, V.int 7, V.int 19, V.int 199999999999999999999999999999]) nd
  have s3 : Same (Off p p H2) (Off p p (L2.upd H2 d (.lst [V.int 3, V.int 7, V.int 19, V.int 199999999999999999999999999999]))) := by
    rw [off_upd nd nd]
    exact same_new (off_new hd) _
  have e3 : Off p p (L2.upd H2 d (.lst [V.int 3, V.int 7, V.int 19, V.int 199999999999999999999999999999])) d = some (.lst [V.int 3, V.int 7, V.int 19, V.int 199999999999999999999999999999]) := by
    rw [off_at nd nd]
    exact upd_same
  generalize L2.upd H2 d (.lst [V.int 3, V.int 7, V.int 19, V.int 199999999999999999999999999999]) = H3 at P3 s3 e3 ⊢
  refine ⟨p, c + 1 + 1, 4, rfl, P3, by omega, by decide, by decide, fun r3 H4 d0 d1 o4 P4 => ?_⟩
  have h4 : H4 d = some (.lst [V.int 3, V.int 7, V.int 19, V.int 199999999999999999999999999999]) := by
    rw [← o4] at e3
    exact off_le _ _ _ _ _ e3
  obtain ⟨b, hb, b2, b3⟩ : ∃ b : Int, atI [V.int 3, V.int 7, V.int 19, V.int 199999999999999999999999999999] r3 = some (.int b) ∧ 3 ≤ b ∧ b ≤ 199999999999999999999999999999 := by
    have : r3 = 0 ∨ r3 = 1 ∨ r3 = 2 ∨ r3 = 3 := by omega
    rcases this with rfl | rfl | rfl | rfl
    · exact ⟨_, rfl, by decide, by decide⟩
    · exact ⟨_, rfl, by decide, by decide⟩
    · exact ⟨_, rfl, by decide, by decide⟩
    · exact ⟨_, rfl, by decide, by decide⟩
  have s4 : Same (Off p p H) (Off p p H4) := by
    rw [o4, ← o1, ← o2]
    exact s3
  refine ⟨_, r3, rfl, SqL.of h4, _, hb, by decide, fun D hD => ⟨by omega, by omega, ?_⟩⟩
  have nD := P4.new hD
  have fD : Off p p H4 D = none := off_new hD
  obtain ⟨w, ew⟩ : ∃ w : Nat, 1 + r2 = (w : Int) := ⟨(1 + r2).toNat, by omega⟩
  rw [ew]
  refine for_rangeF (fun i σ H' => ∃ (rs : List Addr) (rows : List (List Int)) (u : Int), H' D = some (.lst (rs.map V.ref)) ∧ rs.length = i ∧ Rws (Off p p H') D rs rows ∧ (∀ row ∈ rows, row.length = w) ∧ Drw H' p u ∧ u ≤ c + 3 + 6 * i ∧ Same (Off p p H4) (Off p p H') ∧ ∃ x, σ = [some (.ref p), some (.int (1 + r1)), some (.int w), some (.int b), some (.ref D), x]) ?_ ?_ ?_
  · refine ⟨[], [], _, upd_same, rfl, .nil, fun row h => absurd h List.not_mem_nil, P4.upd nD, by omega, ?_, _, rfl⟩
    rw [off_upd nD nD]
    exact same_new fD _
  · rintro i σ H5 hi ⟨rs, rows, u, hD5, lr, R5, lw, P5, hu, s5, x, rfl⟩
    simp only [t__law_table_0_eq,↓tVar_c0,↓tVar_c1,↓tVar_c2,↓tVar_c4,↓rI_c,↓rI0_c,↓rIxL_c,↓ex_bl,↓ex_int,↓ex_ref,↓ex_l1i,↓ex_l1r,↓tComp_eq,capS,↓tNoTest,↓rAppend,Option.bind_some,Option.bind_none,Option.join_some,Option.map_some,List.getElem?_cons_zero,List.getElem?_cons_succ,V.str.injEq,V.ty.injEq,↓tBM,↓tFor_eq,↓iRng1,↓iList,↓tSeq,↓tNext,↓tAsg,↓gName,↓tCB,↓tCons,↓tNil,tVar,↓tC,↓tOp,↓tRet,↓tDrop,↓tLst,↓tCall,rI,rI0,rIxL,L2.start,truV_int,truV_bl,scal_int,scal_bl,List.map_cons,List.map_nil,List.length_cons,List.length_nil,List.replicate,List.cons_append,List.nil_append,List.append_nil,Option.some.injEq,exists_eq_left',exists_eq_left,exists_and_left,List.cons.injEq,V.int.injEq,V.ref.injEq,V.bl.injEq,and_true,true_and,List.set_cons_zero,List.set_cons_succ,Nat.reduceAdd,Nat.reduceSub,Int.reduceToNat,Int.reducePow,Int.reduceNeg,Int.reduceMul,Int.reduceAdd,Int.reduceSub,decide_eq_true_eq,Bool.not_eq_true',decide_eq_false_iff_not,exists_const,and_assoc,exists_eq,exists_eq',if_true,if_false,Bool.false_eq_true,Bool.true_eq_false,reduceCtorEq,not_true_eq_false,not_false_eq_true]
    refine ⟨.inl ⟨rfl, _, SqL.of hD5⟩, by omega, by omega, fun F hF => ?_⟩
    have nF := P5.new hF
    have u0 := P5.c0
    have nFD : D ≠ F := ne_of_none hD5 hF
    refine comp_rangeF (fun j ys σ H' => ∃ (ns : List Int) (u' : Int), ys = ns.map V.int ∧ ns.length = j ∧ Drw H' p u' ∧ u' ≤ u + j ∧ Same (Off p p H5) (Off p p H') ∧ ∃ k, σ = [k, some (.ref p), some (.int b)]) ?_ ?_ ?_
    · refine ⟨[], u, rfl, rfl, P5.upd nF, by omega, ?_, _, rfl⟩
      rw [off_upd nF nF]
      exact same_new (off_new hF) _
    · rintro j ys σ H' hj hF' ⟨ns, u', rfl, ln, P', hu', s', k, rfl⟩
      simp only [t__law_table_0_eq,↓tVar_c0,↓tVar_c1,↓tVar_c2,↓tVar_c4,↓rI_c,↓rI0_c,↓rIxL_c,↓ex_bl,↓ex_int,↓ex_ref,↓ex_l1i,↓ex_l1r,↓tComp_eq,capS,↓tNoTest,↓rAppend,Option.bind_some,Option.bind_none,Option.join_some,Option.map_some,List.getElem?_cons_zero,List.getElem?_cons_succ,V.str.injEq,V.ty.injEq,↓tBM,↓tFor_eq,↓iRng1,↓iList,↓tSeq,↓tNext,↓tAsg,↓gName,↓tCB,↓tCons,↓tNil,tVar,↓tC,↓tOp,↓tRet,↓tDrop,↓tLst,↓tCall,rI,rI0,rIxL,L2.start,truV_int,truV_bl,scal_int,scal_bl,List.map_cons,List.map_nil,List.length_cons,List.length_nil,List.replicate,List.cons_append,List.nil_append,List.append_nil,Option.some.injEq,exists_eq_left',exists_eq_left,exists_and_left,List.cons.injEq,V.int.injEq,V.ref.injEq,V.bl.injEq,and_true,true_and,List.set_cons_zero,List.set_cons_succ,Nat.reduceAdd,Nat.reduceSub,Int.reduceToNat,Int.reducePow,Int.reduceNeg,Int.reduceMul,Int.reduceAdd,Int.reduceSub,decide_eq_true_eq,Bool.not_eq_true',decide_eq_false_iff_not,exists_const,and_assoc,exists_eq,exists_eq',if_true,if_false,Bool.false_eq_true,Bool.true_eq_false,reduceCtorEq,not_true_eq_false,not_false_eq_true]
      have u0' := P'.c0
      refine ⟨p, u', b, rfl, P', by omega, by omega, by omega, fun r H6 q0 q1 o6 P6 => ?_⟩
      have hF6 : H6 F = some (.lst (ns.map V.int)) := by
        have : Off p p H6 F = some (.lst (ns.map V.int)) := by rw [o6, off_at nF nF]; exact hF'
        exact off_le _ _ _ _ _ this
      refine ⟨log2.1, log2.2, r, rfl, _, hF6, by rw [List.length_map]; simp only [sizeLine]; omega, _, upd_same, ns ++ [r - b / 2], by rw [List.map_append]; rfl, by rw [List.length_append, ln]; rfl, u' + 1, P6.upd nF, by omega, ?_⟩
      rw [off_upd nF nF, o6]
      exact s'.put (off_new hF)
    · rintro ys σ H' hF' ⟨ns, u', rfl, ln, P', hu', s', k, rfl⟩
      have hD' : H' D = some (.lst (rs.map V.ref)) := by
        have : Off p p H5 D = some (.lst (rs.map V.ref)) := by rw [off_at nD nD]; exact hD5
        exact off_le _ _ _ _ _ (s' _ _ this)
      have l6 := R5.1
      refine ⟨_, hD', by rw [List.length_map]; simp only [sizeLine]; omega, rs ++ [F], by rw [upd_same, List.map_append]; rfl, by rw [List.length_append, lr]; rfl, rows ++ [ns], ?_, ?_, u', P'.upd nD, by omega, ?_⟩
      · refine R5.put (fun x o nx hx => ?_) nFD.symm ?_
        · rw [off_upd nD nD, upd_ne nx]
          exact s' _ _ hx
        · rw [off_upd nD nD, upd_ne nFD.symm, off_at nF nF]
          exact hF'
      · intro row hrow
        rcases List.mem_append.mp hrow with h | h
        · exact lw row h
        · rw [List.mem_singleton.mp h, ln, Int.toNat_natCast]
      · rw [off_upd nD nD]
        exact (s5.trans s').put fD
  · rintro σ H5 ⟨rs, rows, u, hD5, lr, R5, lw, P5, hu, s5, x, rfl⟩
    simp only [t__law_table_0_eq,↓tVar_c0,↓tVar_c1,↓tVar_c2,↓tVar_c4,↓rI_c,↓rI0_c,↓rIxL_c,↓ex_bl,↓ex_int,↓ex_ref,↓ex_l1i,↓ex_l1r,↓tComp_eq,capS,↓tNoTest,↓rAppend,Option.bind_some,Option.bind_none,Option.join_some,Option.map_some,List.getElem?_cons_zero,List.getElem?_cons_succ,V.str.injEq,V.ty.injEq,↓tBM,↓tFor_eq,↓iRng1,↓iList,↓tSeq,↓tNext,↓tAsg,↓gName,↓tCB,↓tCons,↓tNil,tVar,↓tC,↓tOp,↓tRet,↓tDrop,↓tLst,↓tCall,rI,rI0,rIxL,L2.start,truV_int,truV_bl,scal_int,scal_bl,List.map_cons,List.map_nil,List.length_cons,List.length_nil,List.replicate,List.cons_append,List.nil_append,List.append_nil,Option.some.injEq,exists_eq_left',exists_eq_left,exists_and_left,List.cons.injEq,V.int.injEq,V.ref.injEq,V.bl.injEq,and_true,true_and,List.set_cons_zero,List.set_cons_succ,Nat.reduceAdd,Nat.reduceSub,Int.reduceToNat,Int.reducePow,Int.reduceNeg,Int.reduceMul,Int.reduceAdd,Int.reduceSub,decide_eq_true_eq,Bool.not_eq_true',decide_eq_false_iff_not,exists_const,and_assoc,exists_eq,exists_eq',if_true,if_false,Bool.false_eq_true,Bool.true_eq_false,reduceCtorEq,not_true_eq_false,not_false_eq_true]
    have l6 := R5.1
    refine q D rs rows w u H5 (s4.trans s5) P5 (by omega) ⟨by rw [off_at nD nD]; exact hD5, R5.1, fun k r row k1 k2 => (R5.2 k r row k1 k2).2, lw, by omega, by omega, by omega, by omega⟩
theorem sc__law_table : FnScope ["_law_left_here", "_law_high", "_law_wide", "_law_base", "_law_table_here", "_law_i"] ["_law_left_here"] (defScope s__law_table) := ⟨rfl, rfl, rfl, by decide +kernel, rfl, by decide +kernel, by decide +kernel⟩
theorem ok__law_table (T : Txt K mg a) : FnOk P w K mg base CX0 3 a.f__law_table a.d__law_table ["_law_left_here"] (spTable K) := by
  have G__law_draw := ok__law_draw (P := P) (w := w) (base := base) T
  refine T.F__law_table.ok sc__law_table (fun vs H Q E h => ?_) (fun cdv A outer s H vs Q E hr h => ?_)
  · obtain ⟨p, c, rfl, hP, c1, q⟩ := h
    rfl
  obtain ⟨p, c, rfl, hP, c1, q⟩ := h
  exact ⟨t__law_table K, (pss_cons (ps_set (i := 1) sc__law_table.nd rfl (Or.inl rfl) (pe_op op_add pe_int (pe_call G__law_draw (hr.mono (by decide)) rfl T.m__law_draw T.F__law_draw.kp T.b__law_draw .nil pass0 (pa_cons (pv 0) (pa_cons pe_int pa_nil)))))
  (pss_cons (ps_set (i := 2) sc__law_table.nd rfl (Or.inl rfl) (pe_op op_add pe_int (pe_call G__law_draw (hr.mono (by decide)) rfl T.m__law_draw T.F__law_draw.kp T.b__law_draw .nil pass0 (pa_cons (pv 0) (pa_cons pe_int pa_nil)))))
  (pss_cons (ps_set (i := 3) sc__law_table.nd rfl (Or.inr rfl) (pe_ix ix_list (pe_lst (pa_cons pe_int (pa_cons pe_int (pa_cons pe_int (pa_cons (pe_op op_sub (pe_op op_mulG pe_int (pe_op op_pow pe_int pe_int)) pe_int) pa_nil))))) (pe_call G__law_draw (hr.mono (by decide)) rfl T.m__law_draw T.F__law_draw.kp T.b__law_draw .nil pass0 (pa_cons (pv 0) (pa_cons pe_int pa_nil))) (fun _ _ => rfl)))
  (pss_cons (ps_set (i := 4) sc__law_table.nd rfl (Or.inl rfl) (pe_lst pa_nil))
  (pss_cons (ps_for PassesOwn.never rfl (pi_range1 rfl T.z_range (pa_cons (pv 1) pa_nil)) (pg_name (i := 5) sc__law_table.nd rfl (Or.inl rfl))
  (pss_one (ps_expr (pe_bm PySem.F.plainAttrs_list PySem.F.slot_list_append PySem.F.type_list_append mt_append (pv 4) (pa_cons (pe_comp (sc := defScope s__law_table) (N := ["_law_left_here", "_law_high", "_law_wide", "_law_base", "_law_table_here", "_law_i"]) (Nc := ["_law_j", "_law_left_here", "_law_base"]) (cap := [none, some 0, some 3]) rfl rfl rfl (.of (by decide +kernel)) (pi_range1 rfl T.z_range (pa_cons (pv 2) pa_nil)) (fun _ _ _ _ => (pg_name (i := 0) (show List.Nodup (["_law_j", "_law_left_here", "_law_base"] : List Str) from by decide) rfl (Or.inl rfl))) (fun _ _ _ _ => pts_nil) (fun _ _ _ _ => (pe_op op_sub (pe_call G__law_draw (hr.mono (by decide)) rfl T.m__law_draw T.F__law_draw.kp T.b__law_draw .nil pass0 (pa_cons (pv 1) (pa_cons (pv 2) pa_nil))) (pe_op op_fdivP (pv 2) pe_int)))) pa_nil)))))
  (pss_one (ps_ret (pv 4)))))))),
    rd__law_table hP c1 q⟩
def t__law_copy (K : PySem.W.Frag) : TS :=
  (tRet (tComp (iList K (tVar 0)) (gName 0) tNoTest (tCB (fun xs H Q => ∃ p ys, xs = [.ref p] ∧ (SqL K H p ys ∨ SqT K H p ys) ∧ ∀ l, H l = none → Q (.ref l) (upd H l (.lst ys))) (tCons (tVar 0) tNil)) [none]))
theorem rd__law_copy {t : Addr} {rs : List Addr} {rows : List (List Int)} {w : Nat} (B : Tb H t rs rows w) (q : ∀ (t' : Addr) (rs' : List Addr) (H' : Hp), Same H H' → Tb H' t' rs' rows w → Q (.ref t') H') :
    t__law_copy K { nx := fun _ H' => Q .non H', rt := Q } (L2.start ["_law_table_here"] [.ref t]) H := by
  unfold t__law_copy
  have l6 := B.l6
  simp only [↓tVar_c0,↓tVar_c1,↓tVar_c2,↓tVar_c3,↓tVar_c4,↓rI_c,↓rIxL_c,↓ex_bl,↓ex_int,↓ex_ref,↓ex_l1i,↓ex_l1r,↓tComp_eq,↓rRep,capS,↓tNoTest,↓gSub,↓tSl,↓tNoPart,↓tPart,↓rSlL,↓rSetL,↓rAppend,Option.bind_some,Option.bind_none,Option.join_some,Option.map_some,List.getElem?_cons_zero,List.getElem?_cons_succ,↓rCat,V.str.injEq,V.ty.injEq,↓tFor_eq,↓iRng1,↓iList,↓tSeq,↓tNext,↓tAsg,↓gName,↓tCB,↓tCons,↓tNil,tVar,↓tC,↓tOp,↓tUn,↓tTest,↓tIfS,↓tRet,↓tLst,↓tCall,rI,↓rU,↓rEq,rIxL,L2.start,truV_int,truV_bl,scal_int,scal_bl,List.map_cons,List.map_nil,List.length_cons,List.length_nil,List.replicate,List.cons_append,List.nil_append,List.append_nil,Option.some.injEq,exists_eq_left',exists_eq_left,exists_and_left,List.cons.injEq,V.int.injEq,V.ref.injEq,V.bl.injEq,and_true,true_and,List.set_cons_zero,List.set_cons_succ,Nat.reduceAdd,Nat.reduceSub,Int.reduceToNat,Int.reducePow,Int.reduceNeg,Int.reduceMul,Int.reduceAdd,Int.reduceSub,decide_eq_true_eq,Bool.not_eq_true',decide_eq_false_iff_not,exists_const,and_assoc,exists_eq,exists_eq',if_true,if_false,Bool.false_eq_true,Bool.true_eq_false,reduceCtorEq,not_true_eq_false,not_false_eq_true]
  refine ⟨⟨_, SqL.of B.ht⟩, fun D hD => ?_⟩
  refine comp_listF (K := K) (xs := rs.map V.ref) (fun i ys σ H' => Same H H' ∧ (∃ rs' : List Addr, ys = rs'.map V.ref ∧ rs'.length = i ∧ ∀ (k : Nat) r row, rs'[k]? = some r → rows[k]? = some row → r ≠ D ∧ H' r = some (.lst (row.map V.int))) ∧ ∃ x, σ = [x]) ⟨same_new hD _, ⟨[], rfl, rfl, fun k r row e => nomatch e⟩, _, rfl⟩ ?_ ?_ ?_
  · rintro i ys σ H' _ ⟨s, _⟩
    exact SqL.of (s _ _ B.ht)
  · rintro i x ys σ H' hi hD' ⟨s, ⟨rs', rfl, lr, hr⟩, y, rfl⟩
    obtain ⟨r, er, rfl⟩ := map_at hi
    obtain ⟨row, e1, e2, e3⟩ := B.at er
    have li := (List.getElem?_eq_some_iff.mp e1).1
    simp only [↓tVar_c0,↓tVar_c1,↓tVar_c2,↓tVar_c3,↓tVar_c4,↓rI_c,↓rIxL_c,↓ex_bl,↓ex_int,↓ex_ref,↓ex_l1i,↓ex_l1r,↓tComp_eq,↓rRep,capS,↓tNoTest,↓gSub,↓tSl,↓tNoPart,↓tPart,↓rSlL,↓rSetL,↓rAppend,Option.bind_some,Option.bind_none,Option.join_some,Option.map_some,List.getElem?_cons_zero,List.getElem?_cons_succ,↓rCat,V.str.injEq,V.ty.injEq,↓tFor_eq,↓iRng1,↓iList,↓tSeq,↓tNext,↓tAsg,↓gName,↓tCB,↓tCons,↓tNil,tVar,↓tC,↓tOp,↓tUn,↓tTest,↓tIfS,↓tRet,↓tLst,↓tCall,rI,↓rU,↓rEq,rIxL,L2.start,truV_int,truV_bl,scal_int,scal_bl,List.map_cons,List.map_nil,List.length_cons,List.length_nil,List.replicate,List.cons_append,List.nil_append,List.append_nil,Option.some.injEq,exists_eq_left',exists_eq_left,exists_and_left,List.cons.injEq,V.int.injEq,V.ref.injEq,V.bl.injEq,and_true,true_and,List.set_cons_zero,List.set_cons_succ,Nat.reduceAdd,Nat.reduceSub,Int.reduceToNat,Int.reducePow,Int.reduceNeg,Int.reduceMul,Int.reduceAdd,Int.reduceSub,decide_eq_true_eq,Bool.not_eq_true',decide_eq_false_iff_not,exists_const,and_assoc,exists_eq,exists_eq',if_true,if_false,Bool.false_eq_true,Bool.true_eq_false,reduceCtorEq,not_true_eq_false,not_false_eq_true]
    refine ⟨_, .inl (SqL.of (s _ _ e2)), fun b hb => ?_⟩
    have nb : D ≠ b := ne_of_none hD' hb
    refine ⟨_, by rw [upd_ne nb]; exact hD', by rw [List.length_map]; simp only [sizeLine]; omega, _, upd_same, (s.add hb).put hD, rs' ++ [b], by rw [List.map_append]; rfl, by rw [List.length_append, lr]; rfl, fun k r' row' k1 k2 => ?_⟩
    by_cases ck : k < rs'.length
    · rw [List.getElem?_append_left ck] at k1
      obtain ⟨z1, z2⟩ := hr k r' row' k1 k2
      exact ⟨z1, by rw [upd_ne z1, upd_ne (ne_of_none z2 hb)]; exact z2⟩
    · rw [List.getElem?_append_right (by omega)] at k1
      have zk : k - rs'.length = 0 := by
        have := (List.getElem?_eq_some_iff.mp k1).1
        simp only [List.length_cons,List.length_nil] at this
        omega
      rw [zk] at k1
      cases k1
      have ek : k = i := by omega
      rw [ek, e1] at k2
      cases k2
      exact ⟨nb.symm, by rw [upd_ne nb.symm]; exact upd_same⟩
  · rintro ys σ H' hD' ⟨s, ⟨rs', rfl, lr, hr⟩, y, rfl⟩
    rw [List.length_map] at lr
    exact q D rs' H' s ⟨hD', by rw [lr]; exact B.len, fun k r row k1 k2 => (hr k r row k1 k2).2, B.hw, B.l1, B.l6, B.w1, B.w6⟩
theorem sc__law_copy : FnScope ["_law_table_here"] ["_law_table_here"] (defScope s__law_copy) := ⟨rfl, rfl, rfl, by decide +kernel, rfl, by decide +kernel, by decide +kernel⟩
theorem ok__law_copy (T : Txt K mg a) : FnOk P w K mg base CX0 1 a.f__law_copy a.d__law_copy ["_law_table_here"] (spCopy K) := by
  refine T.F__law_copy.ok sc__law_copy (fun vs H Q E h => ?_) (fun cdv A outer s H vs Q E hr h => ?_)
  · obtain ⟨t, rs, rows, w, rfl, B, q⟩ := h
    rfl
  obtain ⟨t, rs, rows, w, rfl, B, q⟩ := h
  exact ⟨t__law_copy K, (pss_one (ps_ret (pe_comp (sc := defScope s__law_copy) (N := ["_law_table_here"]) (Nc := ["_law_row"]) (cap := [none]) rfl rfl rfl (.of (by decide +kernel)) (pi_list (pv 0)) (fun _ _ _ _ => (pg_name (i := 0) (show List.Nodup (["_law_row"] : List Str) from by decide) rfl (Or.inl rfl))) (fun _ _ _ _ => pts_nil) (fun _ _ _ _ => (pe_callTy call_list_of rfl T.z_list boot_list (pa_cons (pv 0) pa_nil)))))),
    rd__law_copy B q⟩
theorem ix_nat {n j : Nat} (h : j < n) : ixN n (j : Int) = some j := by
  unfold ixN
  rw [if_pos (by omega), if_pos (by omega)]
  simp
theorem wv_set {xs : List V} {j : Nat} {v : V} (h : ∀ x ∈ xs, Wv x) (hv : Wv v) : ∀ x ∈ xs.set j v, Wv x := fun x hx => (List.mem_or_eq_of_mem_set hx).elim (h x) (fun e => e ▸ hv)
theorem wv_cut {xs : List V} {lo hi : Option Int} (h : ∀ x ∈ xs, Wv x) : ∀ x ∈ cutV xs lo hi, Wv x := fun x hx => h x (List.mem_of_mem_drop (List.mem_of_mem_take hx))
theorem wv_rep {k : Nat} : ∀ x ∈ (List.replicate k [V.int 0]).flatten, Wv x := fun x hx => by
  obtain ⟨l, hl, hx⟩ := List.mem_flatten.mp hx
  rw [(List.mem_replicate.mp hl).2] at hx
  rw [List.mem_singleton.mp hx]
  exact .inl ⟨0, rfl, by decide, by decide⟩
theorem len_rep1 {k : Nat} : (List.replicate k [V.int 0]).flatten.length = k := by
  induction k with
  | zero => rfl
  | succ k ih => rw [List.replicate_succ, List.flatten_cons, List.length_append, ih, List.length_singleton, Nat.add_comm]
def t__law_some_0 (K : PySem.W.Frag) : TS :=
  (tIfS (tTest (tOp rEq (tVar 3) (tC (.int 2)))) (tRet (tOp (rIxL K) (tLst (tCons (tSl (rSlL K) (tVar 2) (tPart (tC (.int 1))) tNoPart) (tCons (tOp rCat (tVar 2) (tLst (tCons (tC (.int 1)) tNil))) tNil))) (tOp (rI (fun _ j => 0 < j) fun i j => .int (i % j)) (tVar 4) (tC (.int 2))))) tNext)
theorem t__law_some_0_eq (K : PySem.W.Frag) (D : Ends) (σ : St) (H : Hp) : t__law_some_0 K D σ H = (tIfS (tTest (tOp rEq (tVar 3) (tC (.int 2)))) (tRet (tOp (rIxL K) (tLst (tCons (tSl (rSlL K) (tVar 2) (tPart (tC (.int 1))) tNoPart) (tCons (tOp rCat (tVar 2) (tLst (tCons (tC (.int 1)) tNil))) tNil))) (tOp (rI (fun _ j => 0 < j) fun i j => .int (i % j)) (tVar 4) (tC (.int 2))))) tNext) D σ H := rfl
def t__law_some_1 (K : PySem.W.Frag) : TS :=
  (tSeq (tCut (tIfS (tTest (tOp rEq (tVar 3) (tC (.int 1)))) (tAsg (tOp rRep (tLst (tCons (tC (.int 0)) tNil)) (tVar 1)) (gName 2)) tNext))
  (tSeq (tCut (t__law_some_0 K))
  (tRet (tVar 2))))
theorem t__law_some_1_eq (K : PySem.W.Frag) (D : Ends) (σ : St) (H : Hp) : t__law_some_1 K D σ H = (tSeq (tCut (tIfS (tTest (tOp rEq (tVar 3) (tC (.int 1)))) (tAsg (tOp rRep (tLst (tCons (tC (.int 0)) tNil)) (tVar 1)) (gName 2)) tNext))
  (tSeq (tCut (t__law_some_0 K))
  (tRet (tVar 2)))) D σ H := rfl
def t__law_some_2 (K : PySem.W.Frag) : TS :=
  (tSeq (tCut (tIfS (tTest (tOp rEq (tVar 3) (tC (.int 0)))) (tAsg (tUn (rU fun i => .int (-i)) (tC (.int 1))) (gSub (tVar 2) (tVar 4) rSetL)) tNext))
  (t__law_some_1 K))
theorem t__law_some_2_eq (K : PySem.W.Frag) (D : Ends) (σ : St) (H : Hp) : t__law_some_2 K D σ H = (tSeq (tCut (tIfS (tTest (tOp rEq (tVar 3) (tC (.int 0)))) (tAsg (tUn (rU fun i => .int (-i)) (tC (.int 1))) (gSub (tVar 2) (tVar 4) rSetL)) tNext))
  (t__law_some_1 K)) D σ H := rfl
def t__law_some (K : PySem.W.Frag) : TS :=
  (tSeq (tAsg (tComp (iRng1 (tCons (tVar 1) tNil)) (gName 0) tNoTest (tCall spDraw [] E0 (tCons (tVar 1) (tCons (tC (.int 4)) tNil))) [none, some 0]) (gName 2))
  (tSeq (tAsg (tCall spDraw [] E0 (tCons (tVar 0) (tCons (tC (.int 11)) tNil))) (gName 3))
  (tSeq (tAsg (tCall spDraw [] E0 (tCons (tVar 0) (tCons (tVar 1) tNil))) (gName 4))
  (tSeq (tCut (tIfS (tTest (tOp rEq (tVar 3) (tC (.int 3)))) (tAsg (tC (.bl true)) (gSub (tVar 2) (tVar 4) rSetL)) tNext))
  (t__law_some_2 K)))))
theorem rd__law_some {p : Addr} {c m : Int} (hP : Drw H p c) (c1 : c < 1000) (m1 : 1 ≤ m) (m6 : m ≤ 6) (q : ∀ (l : Addr) (xs : List V) (c' : Int) (H' : Hp), Same (Off p p H) (Off p p H') → Drw H' p c' → c' ≤ c + 8 → Off p p H' l = some (.lst xs) → xs.length ≤ 7 → (∀ x ∈ xs, Wv x) → Q (.ref l) H') :
    t__law_some K { nx := fun _ H' => Q .non H', rt := Q } (L2.start ["_law_left_here", "_law_many", "_law_weights_here", "_law_choice", "_law_at"] [.ref p, .int m]) H := by
  unfold t__law_some
  have c0 := hP.c0
  simp only [t__law_some_0_eq,t__law_some_1_eq,t__law_some_2_eq,↓tVar_c0,↓tVar_c1,↓tVar_c2,↓tVar_c3,↓tVar_c4,↓rI_c,↓rIxL_c,↓ex_bl,↓ex_int,↓ex_ref,↓ex_l1i,↓ex_l1r,↓tComp_eq,↓rMaxL,↓rMinL,↓rRep,↓rSum,capS,↓tNoTest,↓gSub,↓tSl,↓tNoPart,↓tPart,↓rSlL,↓rSetL,↓rAppend,Option.bind_some,Option.bind_none,Option.join_some,Option.map_some,List.getElem?_cons_zero,List.getElem?_cons_succ,↓rCat,V.str.injEq,V.ty.injEq,↓tFor_eq,↓iRng1,↓iList,↓tSeq,↓tNext,↓tAsg,↓gName,↓tCB,↓tCons,↓tNil,tVar,↓tC,↓tOp,↓tUn,↓tTest,↓tB,↓tNot,↓tIfS,↓tRet,↓tLst,↓tCall,rI,↓rU,↓rEq,rIxL,L2.start,truV_int,truV_bl,scal_int,scal_bl,List.map_cons,List.map_nil,List.length_cons,List.length_nil,List.replicate,List.cons_append,List.nil_append,List.append_nil,Option.some.injEq,exists_eq_left',exists_eq_left,exists_and_left,List.cons.injEq,V.int.injEq,V.ref.injEq,V.bl.injEq,and_true,true_and,List.set_cons_zero,List.set_cons_succ,Nat.reduceAdd,Nat.reduceSub,Int.reduceToNat,Int.reducePow,Int.reduceNeg,Int.reduceMul,Int.reduceAdd,Int.reduceSub,decide_eq_true_eq,Bool.not_eq_true',decide_eq_false_iff_not,exists_const,and_assoc,exists_eq,exists_eq',if_true,if_false,Bool.false_eq_true,Bool.true_eq_false,reduceCtorEq,not_true_eq_false,not_false_eq_true]
  refine ⟨by omega, by omega, fun D hD => ?_⟩
  have nD := hP.new hD
  have fD : Off p p H D = none := off_new hD
  refine comp_rangeF (fun i ys σ H' => ∃ (ns : List Int) (u : Int), ys = ns.map V.int ∧ ns.length = i ∧ (∀ n ∈ ns, 0 ≤ n ∧ n ≤ 10) ∧ Same (Off p p H) (Off p p H') ∧ Drw H' p u ∧ u ≤ c + i ∧ ∃ k, σ = [k, some (.ref p)]) ?_ ?_ ?_
  · refine ⟨[], c, rfl, rfl, fun n h => absurd h List.not_mem_nil, ?_, hP.upd nD, by omega, _, rfl⟩
    rw [off_upd nD nD]
    exact same_new fD _
  · rintro i ys σ H' hi hD' ⟨ns, u, rfl, ln, gn, s, P1, hu, k, rfl⟩
    have u0 := P1.c0
    simp only [t__law_some_0_eq,t__law_some_1_eq,t__law_some_2_eq,↓tVar_c0,↓tVar_c1,↓tVar_c2,↓tVar_c3,↓tVar_c4,↓rI_c,↓rIxL_c,↓ex_bl,↓ex_int,↓ex_ref,↓ex_l1i,↓ex_l1r,↓tComp_eq,↓rMaxL,↓rMinL,↓rRep,↓rSum,capS,↓tNoTest,↓gSub,↓tSl,↓tNoPart,↓tPart,↓rSlL,↓rSetL,↓rAppend,Option.bind_some,Option.bind_none,Option.join_some,Option.map_some,List.getElem?_cons_zero,List.getElem?_cons_succ,↓rCat,V.str.injEq,V.ty.injEq,↓tFor_eq,↓iRng1,↓iList,↓tSeq,↓tNext,↓tAsg,↓gName,↓tCB,↓tCons,↓tNil,tVar,↓tC,↓tOp,↓tUn,↓tTest,↓tB,↓tNot,↓tIfS,↓tRet,↓tLst,↓tCall,rI,↓rU,↓rEq,rIxL,L2.start,truV_int,truV_bl,scal_int,scal_bl,List.map_cons,List.map_nil,List.length_cons,List.length_nil,List.replicate,List.cons_append,List.nil_append,List.append_nil,Option.some.injEq,exists_eq_left',exists_eq_left,exists_and_left,List.cons.injEq,V.int.injEq,V.ref.injEq,V.bl.injEq,and_true,true_and,List.set_cons_zero,List.set_cons_succ,Nat.reduceAdd,Nat.reduceSub,Int.reduceToNat,Int.reducePow,Int.reduceNeg,Int.reduceMul,Int.reduceAdd,Int.reduceSub,decide_eq_true_eq,Bool.not_eq_true',decide_eq_false_iff_not,exists_const,and_assoc,exists_eq,exists_eq',if_true,if_false,Bool.false_eq_true,Bool.true_eq_false,reduceCtorEq,not_true_eq_false,not_false_eq_true]
    refine ⟨p, u, 4, rfl, P1, by omega, by decide, by decide, fun r H2 r0 r1 o2 P2 => ?_⟩
    have hD2 : H2 D = some (.lst (ns.map V.int)) := by
      have : Off p p H2 D = some (.lst (ns.map V.int)) := by rw [o2, off_at nD nD]; exact hD'
      exact off_le _ _ _ _ _ this
    refine ⟨_, hD2, by rw [List.length_map]; simp only [sizeLine]; omega, _, upd_same, ns ++ [r], by rw [List.map_append]; rfl, by rw [List.length_append, ln]; rfl, ?_, ?_, u + 1, P2.upd nD, by omega⟩
    · intro n h
      rcases List.mem_append.mp h with h | h
      · exact gn n h
      · rw [List.mem_singleton.mp h]
        omega
    · rw [off_upd nD nD, o2]
      exact s.put fD
  · rintro ys σ H1 hD1 ⟨ns, u, rfl, ln, gn, s1, P1, hu, k, rfl⟩
    have u0 := P1.c0
    refine ⟨p, u, 11, rfl, P1, by omega, by decide, by decide, fun ch H2 h0 h1 o2 P2 => ?_⟩
    refine ⟨p, u + 1, m, rfl, P2, by omega, by omega, by omega, fun at_ H3 a0 a1 o3 P3 => ?_⟩
    have eD : Off p p H3 D = some (.lst (ns.map V.int)) := by rw [o3, o2, off_at nD nD]; exact hD1
    have s3 : Same (Off p p H) (Off p p H3) := by rw [o3, o2]; exact s1
    have L0 : ∀ x ∈ ns.map V.int, Wv x := fun x hx => by
      obtain ⟨n, hn, rfl⟩ := List.mem_map.mp hx
      have := gn n hn
      exact .inl ⟨n, rfl, by omega, by omega⟩
    refine ⟨fun σ H' => ∃ xs : List V, Same (Off p p H) (Off p p H') ∧ Drw H' p (u + 1 + 1) ∧ Off p p H' D = some (.lst xs) ∧ (xs.length : Int) = m ∧ (∀ x ∈ xs, Wv x) ∧ σ = [some (.ref p), some (.int m), some (.ref D), some (.int ch), some (.int at_)], ?_, ?_⟩
    · simp only [t__law_some_0_eq,t__law_some_1_eq,t__law_some_2_eq,↓tVar_c0,↓tVar_c1,↓tVar_c2,↓tVar_c3,↓tVar_c4,↓rI_c,↓rIxL_c,↓ex_bl,↓ex_int,↓ex_ref,↓ex_l1i,↓ex_l1r,↓tComp_eq,↓rMaxL,↓rMinL,↓rRep,↓rSum,capS,↓tNoTest,↓gSub,↓tSl,↓tNoPart,↓tPart,↓rSlL,↓rSetL,↓rAppend,Option.bind_some,Option.bind_none,Option.join_some,Option.map_some,List.getElem?_cons_zero,List.getElem?_cons_succ,↓rCat,V.str.injEq,V.ty.injEq,↓tFor_eq,↓iRng1,↓iList,↓tSeq,↓tNext,↓tAsg,↓gName,↓tCB,↓tCons,↓tNil,tVar,↓tC,↓tOp,↓tUn,↓tTest,↓tB,↓tNot,↓tIfS,↓tRet,↓tLst,↓tCall,rI,↓rU,↓rEq,rIxL,L2.start,truV_int,truV_bl,scal_int,scal_bl,List.map_cons,List.map_nil,List.length_cons,List.length_nil,List.replicate,List.cons_append,List.nil_append,List.append_nil,Option.some.injEq,exists_eq_left',exists_eq_left,exists_and_left,List.cons.injEq,V.int.injEq,V.ref.injEq,V.bl.injEq,and_true,true_and,List.set_cons_zero,List.set_cons_succ,Nat.reduceAdd,Nat.reduceSub,Int.reduceToNat,Int.reducePow,Int.reduceNeg,Int.reduceMul,Int.reduceAdd,Int.reduceSub,decide_eq_true_eq,Bool.not_eq_true',decide_eq_false_iff_not,exists_const,and_assoc,exists_eq,exists_eq',if_true,if_false,Bool.false_eq_true,Bool.true_eq_false,reduceCtorEq,not_true_eq_false,not_false_eq_true]
      obtain ⟨j, rfl⟩ := Int.eq_ofNat_of_zero_le a0
      refine ite2 (fun z => ⟨_, off_le _ _ _ _ _ eD, j, ix_nat (by rw [List.length_map]; omega), ?_, P3.upd nD, _, by rw [off_upd nD nD]; exact upd_same, by rw [List.length_set, List.length_map]; omega, wv_set L0 (.inr rfl)⟩) (fun z => ⟨s3, P3, _, eD, by rw [List.length_map]; omega, L0⟩)
      rw [off_upd nD nD]
      exact s3.put fD
    rintro σ H4 ⟨xs, s4, P4, e4, l4, w4, rfl⟩
    simp only [t__law_some_0_eq,t__law_some_1_eq,t__law_some_2_eq,↓tVar_c0,↓tVar_c1,↓tVar_c2,↓tVar_c3,↓tVar_c4,↓rI_c,↓rIxL_c,↓ex_bl,↓ex_int,↓ex_ref,↓ex_l1i,↓ex_l1r,↓tComp_eq,↓rMaxL,↓rMinL,↓rRep,↓rSum,capS,↓tNoTest,↓gSub,↓tSl,↓tNoPart,↓tPart,↓rSlL,↓rSetL,↓rAppend,Option.bind_some,Option.bind_none,Option.join_some,Option.map_some,List.getElem?_cons_zero,List.getElem?_cons_succ,↓rCat,V.str.injEq,V.ty.injEq,↓tFor_eq,↓iRng1,↓iList,↓tSeq,↓tNext,↓tAsg,↓gName,↓tCB,↓tCons,↓tNil,tVar,↓tC,↓tOp,↓tUn,↓tTest,↓tB,↓tNot,↓tIfS,↓tRet,↓tLst,↓tCall,rI,↓rU,↓rEq,rIxL,L2.start,truV_int,truV_bl,scal_int,scal_bl,List.map_cons,List.map_nil,List.length_cons,List.length_nil,List.replicate,List.cons_append,List.nil_append,List.append_nil,Option.some.injEq,exists_eq_left',exists_eq_left,exists_and_left,List.cons.injEq,V.int.injEq,V.ref.injEq,V.bl.injEq,and_true,true_and,List.set_cons_zero,List.set_cons_succ,Nat.reduceAdd,Nat.reduceSub,Int.reduceToNat,Int.reducePow,Int.reduceNeg,Int.reduceMul,Int.reduceAdd,Int.reduceSub,decide_eq_true_eq,Bool.not_eq_true',decide_eq_false_iff_not,exists_const,and_assoc,exists_eq,exists_eq',if_true,if_false,Bool.false_eq_true,Bool.true_eq_false,reduceCtorEq,not_true_eq_false,not_false_eq_true]
    refine ⟨fun σ H' => ∃ xs : List V, Same (Off p p H) (Off p p H') ∧ Drw H' p (u + 1 + 1) ∧ Off p p H' D = some (.lst xs) ∧ (xs.length : Int) = m ∧ (∀ x ∈ xs, Wv x) ∧ σ = [some (.ref p), some (.int m), some (.ref D), some (.int ch), some (.int at_)], ?_, ?_⟩
    · simp only [t__law_some_0_eq,t__law_some_1_eq,t__law_some_2_eq,↓tVar_c0,↓tVar_c1,↓tVar_c2,↓tVar_c3,↓tVar_c4,↓rI_c,↓rIxL_c,↓ex_bl,↓ex_int,↓ex_ref,↓ex_l1i,↓ex_l1r,↓tComp_eq,↓rMaxL,↓rMinL,↓rRep,↓rSum,capS,↓tNoTest,↓gSub,↓tSl,↓tNoPart,↓tPart,↓rSlL,↓rSetL,↓rAppend,Option.bind_some,Option.bind_none,Option.join_some,Option.map_some,List.getElem?_cons_zero,List.getElem?_cons_succ,↓rCat,V.str.injEq,V.ty.injEq,↓tFor_eq,↓iRng1,↓iList,↓tSeq,↓tNext,↓tAsg,↓gName,↓tCB,↓tCons,↓tNil,tVar,↓tC,↓tOp,↓tUn,↓tTest,↓tB,↓tNot,↓tIfS,↓tRet,↓tLst,↓tCall,rI,↓rU,↓rEq,rIxL,L2.start,truV_int,truV_bl,scal_int,scal_bl,List.map_cons,List.map_nil,List.length_cons,List.length_nil,List.replicate,List.cons_append,List.nil_append,List.append_nil,Option.some.injEq,exists_eq_left',exists_eq_left,exists_and_left,List.cons.injEq,V.int.injEq,V.ref.injEq,V.bl.injEq,and_true,true_and,List.set_cons_zero,List.set_cons_succ,Nat.reduceAdd,Nat.reduceSub,Int.reduceToNat,Int.reducePow,Int.reduceNeg,Int.reduceMul,Int.reduceAdd,Int.reduceSub,decide_eq_true_eq,Bool.not_eq_true',decide_eq_false_iff_not,exists_const,and_assoc,exists_eq,exists_eq',if_true,if_false,Bool.false_eq_true,Bool.true_eq_false,reduceCtorEq,not_true_eq_false,not_false_eq_true]
      obtain ⟨j, rfl⟩ := Int.eq_ofNat_of_zero_le a0
      refine ite2 (fun z => ⟨_, off_le _ _ _ _ _ e4, j, ix_nat (by omega), ?_, P4.upd nD, _, by rw [off_upd nD nD]; exact upd_same, by rw [List.length_set]; omega, wv_set w4 (.inl ⟨-1, rfl, by decide, by decide⟩)⟩) (fun z => ⟨s4, P4, _, e4, l4, w4⟩)
      rw [off_upd nD nD]
      exact s4.put fD
    rintro σ H5 ⟨xs, s5, P5, e5, l5, w5, rfl⟩
    simp only [t__law_some_0_eq,t__law_some_1_eq,t__law_some_2_eq,↓tVar_c0,↓tVar_c1,↓tVar_c2,↓tVar_c3,↓tVar_c4,↓rI_c,↓rIxL_c,↓ex_bl,↓ex_int,↓ex_ref,↓ex_l1i,↓ex_l1r,↓tComp_eq,↓rMaxL,↓rMinL,↓rRep,↓rSum,capS,↓tNoTest,↓gSub,↓tSl,↓tNoPart,↓tPart,↓rSlL,↓rSetL,↓rAppend,Option.bind_some,Option.bind_none,Option.join_some,Option.map_some,List.getElem?_cons_zero,List.getElem?_cons_succ,↓rCat,V.str.injEq,V.ty.injEq,↓tFor_eq,↓iRng1,↓iList,↓tSeq,↓tNext,↓tAsg,↓gName,↓tCB,↓tCons,↓tNil,tVar,↓tC,↓tOp,↓tUn,↓tTest,↓tB,↓tNot,↓tIfS,↓tRet,↓tLst,↓tCall,rI,↓rU,↓rEq,rIxL,L2.start,truV_int,truV_bl,scal_int,scal_bl,List.map_cons,List.map_nil,List.length_cons,List.length_nil,List.replicate,List.cons_append,List.nil_append,List.append_nil,Option.some.injEq,exists_eq_left',exists_eq_left,exists_and_left,List.cons.injEq,V.int.injEq,V.ref.injEq,V.bl.injEq,and_true,true_and,List.set_cons_zero,List.set_cons_succ,Nat.reduceAdd,Nat.reduceSub,Int.reduceToNat,Int.reducePow,Int.reduceNeg,Int.reduceMul,Int.reduceAdd,Int.reduceSub,decide_eq_true_eq,Bool.not_eq_true',decide_eq_false_iff_not,exists_const,and_assoc,exists_eq,exists_eq',if_true,if_false,Bool.false_eq_true,Bool.true_eq_false,reduceCtorEq,not_true_eq_false,not_false_eq_true]
    refine ⟨fun σ H' => ∃ (l : Addr) (xs : List V), Same (Off p p H) (Off p p H') ∧ Drw H' p (u + 1 + 1) ∧ Off p p H' l = some (.lst xs) ∧ (xs.length : Int) = m ∧ (∀ x ∈ xs, Wv x) ∧ σ = [some (.ref p), some (.int m), some (.ref l), some (.int ch), some (.int at_)], ?_, ?_⟩
    · simp only [t__law_some_0_eq,t__law_some_1_eq,t__law_some_2_eq,↓tVar_c0,↓tVar_c1,↓tVar_c2,↓tVar_c3,↓tVar_c4,↓rI_c,↓rIxL_c,↓ex_bl,↓ex_int,↓ex_ref,↓ex_l1i,↓ex_l1r,↓tComp_eq,↓rMaxL,↓rMinL,↓rRep,↓rSum,capS,↓tNoTest,↓gSub,↓tSl,↓tNoPart,↓tPart,↓rSlL,↓rSetL,↓rAppend,Option.bind_some,Option.bind_none,Option.join_some,Option.map_some,List.getElem?_cons_zero,List.getElem?_cons_succ,↓rCat,V.str.injEq,V.ty.injEq,↓tFor_eq,↓iRng1,↓iList,↓tSeq,↓tNext,↓tAsg,↓gName,↓tCB,↓tCons,↓tNil,tVar,↓tC,↓tOp,↓tUn,↓tTest,↓tB,↓tNot,↓tIfS,↓tRet,↓tLst,↓tCall,rI,↓rU,↓rEq,rIxL,L2.start,truV_int,truV_bl,scal_int,scal_bl,List.map_cons,List.map_nil,List.length_cons,List.length_nil,List.replicate,List.cons_append,List.nil_append,List.append_nil,Option.some.injEq,exists_eq_left',exists_eq_left,exists_and_left,List.cons.injEq,V.int.injEq,V.ref.injEq,V.bl.injEq,and_true,true_and,List.set_cons_zero,List.set_cons_succ,Nat.reduceAdd,Nat.reduceSub,Int.reduceToNat,Int.reducePow,Int.reduceNeg,Int.reduceMul,Int.reduceAdd,Int.reduceSub,decide_eq_true_eq,Bool.not_eq_true',decide_eq_false_iff_not,exists_const,and_assoc,exists_eq,exists_eq',if_true,if_false,Bool.false_eq_true,Bool.true_eq_false,reduceCtorEq,not_true_eq_false,not_false_eq_true]
      refine ite2 (fun z => ⟨by decide, fun x1 g1 => ⟨_, upd_same, by omega, by omega, by rw [List.length_singleton]; simp only [sizeLine]; omega, fun x2 g2 => ?_⟩⟩) (fun z => ⟨s5, P5, D, _, e5, l5, w5, rfl⟩)
      have sa := same_new g1 (.lst [V.int 0])
      generalize L2.upd H5 x1 (.lst [V.int 0]) = Ha at sa g2 ⊢
      have n2 := (P5.same sa).new g2
      have sb := same_new g2 (.lst (List.replicate m.toNat [V.int 0]).flatten)
      refine ⟨s5.trans (off_same p p (sa.trans sb)), (P5.same sa).same sb, x2, _, by rw [off_at n2 n2]; exact upd_same, by rw [len_rep1]; omega, wv_rep, rfl⟩
    rintro σ H6 ⟨l, xs, s6, P6, e6, l6, w6, rfl⟩
    simp only [t__law_some_0_eq,t__law_some_1_eq,t__law_some_2_eq,↓tVar_c0,↓tVar_c1,↓tVar_c2,↓tVar_c3,↓tVar_c4,↓rI_c,↓rIxL_c,↓ex_bl,↓ex_int,↓ex_ref,↓ex_l1i,↓ex_l1r,↓tComp_eq,↓rMaxL,↓rMinL,↓rRep,↓rSum,capS,↓tNoTest,↓gSub,↓tSl,↓tNoPart,↓tPart,↓rSlL,↓rSetL,↓rAppend,Option.bind_some,Option.bind_none,Option.join_some,Option.map_some,List.getElem?_cons_zero,List.getElem?_cons_succ,↓rCat,V.str.injEq,V.ty.injEq,↓tFor_eq,↓iRng1,↓iList,↓tSeq,↓tNext,↓tAsg,↓gName,↓tCB,↓tCons,↓tNil,tVar,↓tC,↓tOp,↓tUn,↓tTest,↓tB,↓tNot,↓tIfS,↓tRet,↓tLst,↓tCall,rI,↓rU,↓rEq,rIxL,L2.start,truV_int,truV_bl,scal_int,scal_bl,List.map_cons,List.map_nil,List.length_cons,List.length_nil,List.replicate,List.cons_append,List.nil_append,List.append_nil,Option.some.injEq,exists_eq_left',exists_eq_left,exists_and_left,List.cons.injEq,V.int.injEq,V.ref.injEq,V.bl.injEq,and_true,true_and,List.set_cons_zero,List.set_cons_succ,Nat.reduceAdd,Nat.reduceSub,Int.reduceToNat,Int.reducePow,Int.reduceNeg,Int.reduceMul,Int.reduceAdd,Int.reduceSub,decide_eq_true_eq,Bool.not_eq_true',decide_eq_false_iff_not,exists_const,and_assoc,exists_eq,exists_eq',if_true,if_false,Bool.false_eq_true,Bool.true_eq_false,reduceCtorEq,not_true_eq_false,not_false_eq_true]
    refine ⟨fun σ H' => Same (Off p p H) (Off p p H') ∧ Drw H' p (u + 1 + 1) ∧ Off p p H' l = some (.lst xs) ∧ σ = [some (.ref p), some (.int m), some (.ref l), some (.int ch), some (.int at_)], ?_, ?_⟩
    · simp only [t__law_some_0_eq,t__law_some_1_eq,t__law_some_2_eq,↓tVar_c0,↓tVar_c1,↓tVar_c2,↓tVar_c3,↓tVar_c4,↓rI_c,↓rIxL_c,↓ex_bl,↓ex_int,↓ex_ref,↓ex_l1i,↓ex_l1r,↓tComp_eq,↓rMaxL,↓rMinL,↓rRep,↓rSum,capS,↓tNoTest,↓gSub,↓tSl,↓tNoPart,↓tPart,↓rSlL,↓rSetL,↓rAppend,Option.bind_some,Option.bind_none,Option.join_some,Option.map_some,List.getElem?_cons_zero,List.getElem?_cons_succ,↓rCat,V.str.injEq,V.ty.injEq,↓tFor_eq,↓iRng1,↓iList,↓tSeq,↓tNext,↓tAsg,↓gName,↓tCB,↓tCons,↓tNil,tVar,↓tC,↓tOp,↓tUn,↓tTest,↓tB,↓tNot,↓tIfS,↓tRet,↓tLst,↓tCall,rI,↓rU,↓rEq,rIxL,L2.start,truV_int,truV_bl,scal_int,scal_bl,List.map_cons,List.map_nil,List.length_cons,List.length_nil,List.replicate,List.cons_append,List.nil_append,List.append_nil,Option.some.injEq,exists_eq_left',exists_eq_left,exists_and_left,List.cons.injEq,V.int.injEq,V.ref.injEq,V.bl.injEq,and_true,true_and,List.set_cons_zero,List.set_cons_succ,Nat.reduceAdd,Nat.reduceSub,Int.reduceToNat,Int.reducePow,Int.reduceNeg,Int.reduceMul,Int.reduceAdd,Int.reduceSub,decide_eq_true_eq,Bool.not_eq_true',decide_eq_false_iff_not,exists_const,and_assoc,exists_eq,exists_eq',if_true,if_false,Bool.false_eq_true,Bool.true_eq_false,reduceCtorEq,not_true_eq_false,not_false_eq_true]
      refine ite2 (fun z => ⟨_, SqL.of (off_le _ _ _ _ _ e6), fun x1 g1 => ⟨by decide, fun x2 g2 => ?_⟩⟩) (fun z => ⟨s6, P6, e6⟩)
      have n1 := P6.new g1
      have sa := same_new g1 (.lst (cutV xs (some 1) none))
      have ha : (L2.upd H6 x1 (.lst (cutV xs (some 1) none))) x1 = some (.lst (cutV xs (some 1) none)) := upd_same
      generalize L2.upd H6 x1 (.lst (cutV xs (some 1) none)) = Ha at sa ha g2 ⊢
      have sb := same_new g2 (.lst [V.int 1])
      have hb : (L2.upd Ha x2 (.lst [V.int 1])) x2 = some (.lst [V.int 1]) := upd_same
      generalize L2.upd Ha x2 (.lst [V.int 1]) = Hb at sb hb ⊢
      refine ⟨_, sb _ _ (sa _ _ (off_le _ _ _ _ _ e6)), _, hb, by rw [List.length_singleton]; simp only [sizeLine]; omega, fun x3 g3 => ⟨by decide, fun x4 g4 => ?_⟩⟩
      have n3 := ((P6.same sa).same sb).new g3
      have sc := same_new g3 (.lst (xs ++ [V.int 1]))
      have hc : (L2.upd Hb x3 (.lst (xs ++ [V.int 1]))) x3 = some (.lst (xs ++ [V.int 1])) := upd_same
      generalize L2.upd Hb x3 (.lst (xs ++ [V.int 1])) = Hc at sc hc g4 ⊢
      have sd := same_new g4 (.lst [V.ref x1, V.ref x3])
      have hd : (L2.upd Hc x4 (.lst [V.ref x1, V.ref x3])) x4 = some (.lst [V.ref x1, V.ref x3]) := upd_same
      generalize L2.upd Hc x4 (.lst [V.ref x1, V.ref x3]) = Hd at sd hd ⊢
      have sall := ((sa.trans sb).trans sc).trans sd
      have so := s6.trans (off_same p p sall)
      have PA := P6.same sall
      have : at_ % 2 = 0 ∨ at_ % 2 = 1 := by omega
      rcases this with h | h
      · rw [h]
        refine ⟨by decide, _, SqL.of hd, _, rfl, q x1 _ _ Hd so PA (by omega) (by rw [off_at n1 n1]; exact ((sb.trans sc).trans sd) _ _ ha) ?_ (wv_cut w6)⟩
        have := cutV_length xs (some 1) none
        omega
      · rw [h]
        refine ⟨by decide, _, SqL.of hd, _, rfl, q x3 _ _ Hd so PA (by omega) (by rw [off_at n3 n3]; exact sd _ _ hc) (by rw [List.length_append, List.length_singleton]; omega) fun x hx => ?_⟩
        rcases List.mem_append.mp hx with h | h
        · exact w6 x h
        · rw [List.mem_singleton.mp h]
          exact .inl ⟨1, rfl, by decide, by decide⟩
    rintro σ H7 ⟨s7, P7, e7, rfl⟩
    simp only [t__law_some_0_eq,t__law_some_1_eq,t__law_some_2_eq,↓tVar_c0,↓tVar_c1,↓tVar_c2,↓tVar_c3,↓tVar_c4,↓rI_c,↓rIxL_c,↓ex_bl,↓ex_int,↓ex_ref,↓ex_l1i,↓ex_l1r,↓tComp_eq,↓rMaxL,↓rMinL,↓rRep,↓rSum,capS,↓tNoTest,↓gSub,↓tSl,↓tNoPart,↓tPart,↓rSlL,↓rSetL,↓rAppend,Option.bind_some,Option.bind_none,Option.join_some,Option.map_some,List.getElem?_cons_zero,List.getElem?_cons_succ,↓rCat,V.str.injEq,V.ty.injEq,↓tFor_eq,↓iRng1,↓iList,↓tSeq,↓tNext,↓tAsg,↓gName,↓tCB,↓tCons,↓tNil,tVar,↓tC,↓tOp,↓tUn,↓tTest,↓tB,↓tNot,↓tIfS,↓tRet,↓tLst,↓tCall,rI,↓rU,↓rEq,rIxL,L2.start,truV_int,truV_bl,scal_int,scal_bl,List.map_cons,List.map_nil,List.length_cons,List.length_nil,List.replicate,List.cons_append,List.nil_append,List.append_nil,Option.some.injEq,exists_eq_left',exists_eq_left,exists_and_left,List.cons.injEq,V.int.injEq,V.ref.injEq,V.bl.injEq,and_true,true_and,List.set_cons_zero,List.set_cons_succ,Nat.reduceAdd,Nat.reduceSub,Int.reduceToNat,Int.reducePow,Int.reduceNeg,Int.reduceMul,Int.reduceAdd,Int.reduceSub,decide_eq_true_eq,Bool.not_eq_true',decide_eq_false_iff_not,exists_const,and_assoc,exists_eq,exists_eq',if_true,if_false,Bool.false_eq_true,Bool.true_eq_false,reduceCtorEq,not_true_eq_false,not_false_eq_true]
    exact q l xs _ H7 s7 P7 (by omega) e7 (by omega) w6
theorem sc__law_some : FnScope ["_law_left_here", "_law_many", "_law_weights_here", "_law_choice", "_law_at"] ["_law_left_here", "_law_many"] (defScope s__law_some) := ⟨rfl, rfl, rfl, by decide +kernel, rfl, by decide +kernel, by decide +kernel⟩
theorem ok__law_some (T : Txt K mg a) : FnOk P w K mg base CX0 3 a.f__law_some a.d__law_some ["_law_left_here", "_law_many"] (spSome K) := by
  have G__law_draw := ok__law_draw (P := P) (w := w) (base := base) T
  refine T.F__law_some.ok sc__law_some (fun vs H Q E h => ?_) (fun cdv A outer s H vs Q E hr h => ?_)
  · obtain ⟨p, c, m, rfl, hP, c1, m1, m6, q⟩ := h
    rfl
  obtain ⟨p, c, m, rfl, hP, c1, m1, m6, q⟩ := h
  exact ⟨t__law_some K, (pss_cons (ps_setComp (i := 2) sc__law_some.nd rfl rfl (sc := defScope s__law_some) (N := ["_law_left_here", "_law_many", "_law_weights_here", "_law_choice", "_law_at"]) (Nc := ["_law_k", "_law_left_here"]) (cap := [none, some 0]) rfl rfl rfl (.of (by decide +kernel)) (pi_range1 rfl T.z_range (pa_cons (pv 1) pa_nil)) (fun _ _ _ _ => (pg_name (i := 0) (show List.Nodup (["_law_k", "_law_left_here"] : List Str) from by decide) rfl (Or.inl rfl))) (fun _ _ _ _ => pts_nil) (fun _ _ _ _ => (pe_call G__law_draw (hr.mono (by decide)) rfl T.m__law_draw T.F__law_draw.kp T.b__law_draw .nil pass0 (pa_cons (pv 1) (pa_cons pe_int pa_nil)))))
  (pss_cons (ps_set (i := 3) sc__law_some.nd rfl (Or.inl rfl) (pe_call G__law_draw (hr.mono (by decide)) rfl T.m__law_draw T.F__law_draw.kp T.b__law_draw .nil pass0 (pa_cons (pv 0) (pa_cons pe_int pa_nil))))
  (pss_cons (ps_set (i := 4) sc__law_some.nd rfl (Or.inl rfl) (pe_call G__law_draw (hr.mono (by decide)) rfl T.m__law_draw T.F__law_draw.kp T.b__law_draw .nil pass0 (pa_cons (pv 0) (pa_cons (pv 1) pa_nil))))
  (pss_cons (ps_cut (ps_if (pt_cmpR op_eq (pv 3) pe_int (nomark _)) (pss_one (ps_asg pe_bl (pg_sub (pv 2) (pv 4) set_list))) pss_nil))
  (pss_cons (ps_cut (ps_if (pt_cmpR op_eq (pv 3) pe_int (nomark _)) (pss_one (ps_asg (pe_un un_neg pe_int) (pg_sub (pv 2) (pv 4) set_list))) pss_nil))
  (pss_cons (ps_cut (ps_if (pt_cmpR op_eq (pv 3) pe_int (nomark _)) (pss_one (ps_set (i := 2) sc__law_some.nd rfl (Or.inl rfl) (pe_op op_rep (pe_lst (pa_cons pe_int pa_nil)) (pv 1)))) pss_nil))
  (pss_cons (ps_cut (ps_if (pt_cmpR op_eq (pv 3) pe_int (nomark _)) (pss_one (ps_ret (pe_ix ix_list (pe_lst (pa_cons (pe_slice sl_list (pv 2) (po_some pe_int) po_none) (pa_cons (pe_op op_cat (pv 2) (pe_lst (pa_cons pe_int pa_nil))) pa_nil))) (pe_op op_mod (pv 4) pe_int) (fun _ _ => rfl)))) pss_nil))
  (pss_one (ps_ret (pv 2)))))))))),
    rd__law_some hP c1 m1 m6 q⟩
def t__law_due_0 (K : PySem.W.Frag) : TS :=
  (tSeq (tAsg (tComp (iRng1 (tCons (tCB (fun xs H Q => ∃ p ys, xs = [.ref p] ∧ (SqL K H p ys ∨ SqT K H p ys) ∧ Q (.int ys.length) H) (tCons (tOp (rIxL K) (tVar 0) (tC (.int 0))) tNil)) tNil)) (gName 0) tNoTest (tCB (rSum K) (tCons (tComp (iRng1 (tCons (tCB (fun xs H Q => ∃ p ys, xs = [.ref p] ∧ (SqL K H p ys ∨ SqT K H p ys) ∧ Q (.int ys.length) H) (tCons (tVar 2) tNil)) tNil)) (gName 0) tNoTest (tOp (rI IntMulOk fun i j => .int (i * j)) (tOp (rIxL K) (tVar 1) (tVar 0)) (tOp (rIxL K) (tOp (rIxL K) (tVar 3) (tVar 0)) (tVar 2))) [none, some 1, some 0, some 2]) tNil)) [none, some 1, some 0]) (gName 3))
  (tRet (tComp (iRng1 (tCons (tCB (fun xs H Q => ∃ p ys, xs = [.ref p] ∧ (SqL K H p ys ∨ SqT K H p ys) ∧ Q (.int ys.length) H) (tCons (tVar 3) tNil)) tNil)) (gName 0) (tTest (tOp rEq (tOp (rIxL K) (tVar 1) (tVar 0)) (tCB (rMaxL K) (tCons (tVar 1) tNil)))) (tVar 0) [none, some 3])))
theorem t__law_due_0_eq (K : PySem.W.Frag) (D : Ends) (σ : St) (H : Hp) : t__law_due_0 K D σ H = (tSeq (tAsg (tComp (iRng1 (tCons (tCB (fun xs H Q => ∃ p ys, xs = [.ref p] ∧ (SqL K H p ys ∨ SqT K H p ys) ∧ Q (.int ys.length) H) (tCons (tOp (rIxL K) (tVar 0) (tC (.int 0))) tNil)) tNil)) (gName 0) tNoTest (tCB (rSum K) (tCons (tComp (iRng1 (tCons (tCB (fun xs H Q => ∃ p ys, xs = [.ref p] ∧ (SqL K H p ys ∨ SqT K H p ys) ∧ Q (.int ys.length) H) (tCons (tVar 2) tNil)) tNil)) (gName 0) tNoTest (tOp (rI IntMulOk fun i j => .int (i * j)) (tOp (rIxL K) (tVar 1) (tVar 0)) (tOp (rIxL K) (tOp (rIxL K) (tVar 3) (tVar 0)) (tVar 2))) [none, some 1, some 0, some 2]) tNil)) [none, some 1, some 0]) (gName 3))
  (tRet (tComp (iRng1 (tCons (tCB (fun xs H Q => ∃ p ys, xs = [.ref p] ∧ (SqL K H p ys ∨ SqT K H p ys) ∧ Q (.int ys.length) H) (tCons (tVar 3) tNil)) tNil)) (gName 0) (tTest (tOp rEq (tOp (rIxL K) (tVar 1) (tVar 0)) (tCB (rMaxL K) (tCons (tVar 1) tNil)))) (tVar 0) [none, some 3]))) D σ H := rfl
def t__law_due_1 (K : PySem.W.Frag) : TS :=
  (tIfS (tNot (tB (tCall (spWeights K) [] E0 (tCons (tVar 1) (tCons (tCB (fun xs H Q => ∃ p ys, xs = [.ref p] ∧ (SqL K H p ys ∨ SqT K H p ys) ∧ Q (.int ys.length) H) (tCons (tVar 0) tNil)) tNil))))) (tRet (tC .non)) tNext)
theorem t__law_due_1_eq (K : PySem.W.Frag) (D : Ends) (σ : St) (H : Hp) : t__law_due_1 K D σ H = (tIfS (tNot (tB (tCall (spWeights K) [] E0 (tCons (tVar 1) (tCons (tCB (fun xs H Q => ∃ p ys, xs = [.ref p] ∧ (SqL K H p ys ∨ SqT K H p ys) ∧ Q (.int ys.length) H) (tCons (tVar 0) tNil)) tNil))))) (tRet (tC .non)) tNext) D σ H := rfl
def t__law_due_2 (K : PySem.W.Frag) : TS :=
  (tSeq (tAsg (tComp (iList K (tVar 0)) (gName 0) tNoTest (tCB (rSum K) (tCons (tComp (iRng1 (tCons (tCB (fun xs H Q => ∃ p ys, xs = [.ref p] ∧ (SqL K H p ys ∨ SqT K H p ys) ∧ Q (.int ys.length) H) (tCons (tVar 0) tNil)) tNil)) (gName 0) tNoTest (tOp (rI IntMulOk fun i j => .int (i * j)) (tOp (rIxL K) (tVar 1) (tVar 0)) (tOp (rIxL K) (tVar 2) (tVar 0))) [none, some 1, some 0]) tNil)) [none, some 1]) (gName 3))
  (tRet (tComp (iRng1 (tCons (tCB (fun xs H Q => ∃ p ys, xs = [.ref p] ∧ (SqL K H p ys ∨ SqT K H p ys) ∧ Q (.int ys.length) H) (tCons (tVar 3) tNil)) tNil)) (gName 0) (tTest (tOp rEq (tOp (rIxL K) (tVar 1) (tVar 0)) (tCB (rMinL K) (tCons (tVar 1) tNil)))) (tVar 0) [none, some 3])))
theorem t__law_due_2_eq (K : PySem.W.Frag) (D : Ends) (σ : St) (H : Hp) : t__law_due_2 K D σ H = (tSeq (tAsg (tComp (iList K (tVar 0)) (gName 0) tNoTest (tCB (rSum K) (tCons (tComp (iRng1 (tCons (tCB (fun xs H Q => ∃ p ys, xs = [.ref p] ∧ (SqL K H p ys ∨ SqT K H p ys) ∧ Q (.int ys.length) H) (tCons (tVar 0) tNil)) tNil)) (gName 0) tNoTest (tOp (rI IntMulOk fun i j => .int (i * j)) (tOp (rIxL K) (tVar 1) (tVar 0)) (tOp (rIxL K) (tVar 2) (tVar 0))) [none, some 1, some 0]) tNil)) [none, some 1]) (gName 3))
  (tRet (tComp (iRng1 (tCons (tCB (fun xs H Q => ∃ p ys, xs = [.ref p] ∧ (SqL K H p ys ∨ SqT K H p ys) ∧ Q (.int ys.length) H) (tCons (tVar 3) tNil)) tNil)) (gName 0) (tTest (tOp rEq (tOp (rIxL K) (tVar 1) (tVar 0)) (tCB (rMinL K) (tCons (tVar 1) tNil)))) (tVar 0) [none, some 3]))) D σ H := rfl
def t__law_due_3 (K : PySem.W.Frag) : TS :=
  (tIfS (tNot (tB (tCall (spWeights K) [] E0 (tCons (tVar 1) (tCons (tCB (fun xs H Q => ∃ p ys, xs = [.ref p] ∧ (SqL K H p ys ∨ SqT K H p ys) ∧ Q (.int ys.length) H) (tCons (tOp (rIxL K) (tVar 0) (tC (.int 0))) tNil)) tNil))))) (tRet (tC .non)) tNext)
theorem t__law_due_3_eq (K : PySem.W.Frag) (D : Ends) (σ : St) (H : Hp) : t__law_due_3 K D σ H = (tIfS (tNot (tB (tCall (spWeights K) [] E0 (tCons (tVar 1) (tCons (tCB (fun xs H Q => ∃ p ys, xs = [.ref p] ∧ (SqL K H p ys ∨ SqT K H p ys) ∧ Q (.int ys.length) H) (tCons (tOp (rIxL K) (tVar 0) (tC (.int 0))) tNil)) tNil))))) (tRet (tC .non)) tNext) D σ H := rfl
def t__law_due (K : PySem.W.Frag) : TS :=
  (tSeq (tCut (tIfS (tTest (tOp rEq (tVar 2) (tC (.int 0)))) (tSeq (tCut (t__law_due_3 K))
  (t__law_due_2 K)) tNext))
  (tSeq (tCut (t__law_due_1 K))
  (t__law_due_0 K)))
theorem best_ex {k : Int} : ∀ {ns : List Int}, 1 ≤ ns.length → ∃ m, Best k ns m
  | [], h => absurd h (by decide)
  | [x], _ => ⟨x, List.mem_singleton.mpr rfl, fun b hb => by rw [List.mem_singleton.mp hb]; exact ⟨fun _ => Int.le_refl _, fun _ => Int.le_refl _⟩⟩
  | x :: y :: l, _ => by
    obtain ⟨m, h1, h2⟩ := best_ex (k := k) (ns := y :: l) (by simp)
    by_cases c : (k = 0 ∧ x ≤ m) ∨ (k ≠ 0 ∧ m ≤ x)
    · refine ⟨x, List.mem_cons_self, fun b hb => ?_⟩
      rcases List.mem_cons.mp hb with rfl | hb
      · exact ⟨fun _ => Int.le_refl _, fun _ => Int.le_refl _⟩
      · have := h2 b hb
        refine ⟨fun z => ?_, fun z => ?_⟩
        · have := this.1 z
          omega
        · have := this.2 z
          omega
    · refine ⟨m, List.mem_cons_of_mem _ h1, fun b hb => ?_⟩
      rcases List.mem_cons.mp hb with rfl | hb
      · omega
      · exact h2 b hb
theorem at_ref {rs : List Addr} {i : Nat} {r : Addr} (e : rs[i]? = some r) : atI (rs.map V.ref) (i : Int) = some (.ref r) := atI_nat (by rw [List.getElem?_map, e]; rfl)
theorem comp_min {r D : Addr} {ns : List Int} (hr : H r = some (.lst (ns.map V.int))) (hD : H D = none) (l1 : 1 ≤ ns.length) (ln : ns.length ≤ 6) (q : ∀ (m : Int) (H' : Hp), Same H H' → Best 0 ns m → H' D = some (.lst ((idx ns m).map V.int)) → Q (.ref D) H') :
    CompIt (Itr 0 ns.length) (gName 0) (tTest (tOp rEq (tOp (rIxL K) (tVar 1) (tVar 0)) (tCB (rMinL K) (tCons (tVar 1) tNil)))) (tVar 0) D Q [none, some (V.ref r)] (upd H D (HO.lst [])) := by
  obtain ⟨m, Bm⟩ := best_ex (k := 0) l1
  refine comp_rangeF (fun i ys σ H' => Same H H' ∧ ys = (idxN ns m i).map V.int ∧ ∃ x, σ = [x, some (.ref r)]) ⟨same_new hD _, rfl, _, rfl⟩ ?_ ?_
  · rintro i ys σ H' hi hD' ⟨s, rfl, u, rfl⟩
    rw [Int.zero_add]
    obtain ⟨n, hn, en⟩ := at_int (ns := ns) (k := (i : Int)) (by omega) (by omega)
    rw [Int.toNat_natCast] at en
    have ll := idxN_len ns m i
    have hr' := s _ _ hr
    simp only [t__law_due_0_eq,t__law_due_1_eq,t__law_due_2_eq,t__law_due_3_eq,↓tVar_c0,↓tVar_c1,↓tVar_c2,↓tVar_c3,↓rI_c,↓rIxL_c,↓ex_bl,↓ex_int,↓ex_ref,↓ex_l1i,↓ex_l1r,↓tComp_eq,↓rMaxL,↓rMinL,↓rSum,capS,↓tNoTest,↓rAppend,Option.bind_some,Option.bind_none,Option.join_some,Option.map_some,List.getElem?_cons_zero,List.getElem?_cons_succ,↓tCallS,↓tTry,V.str.injEq,V.ty.injEq,↓tFor_eq,↓iRng1,↓iList,↓tSeq,↓tNext,↓tAsg,↓gName,↓tCB,↓tCons,↓tNil,tVar,↓tC,↓tOp,↓tTest,↓tB,↓tOr,↓tNot,↓tIfS,↓tRet,↓tLst,↓tTup,↓tCall,rI,↓rEq,rIxL,L2.start,truV_int,truV_bl,scal_int,scal_bl,List.map_cons,List.map_nil,List.length_cons,List.length_nil,List.replicate,List.cons_append,List.nil_append,List.append_nil,Option.some.injEq,exists_eq_left',exists_eq_left,exists_and_left,List.cons.injEq,V.int.injEq,V.ref.injEq,V.bl.injEq,and_true,true_and,List.set_cons_zero,List.set_cons_succ,Nat.reduceAdd,Nat.reduceSub,Int.reduceToNat,Int.reducePow,Int.reduceNeg,Int.reduceMul,Int.reduceAdd,Int.reduceSub,decide_eq_true_eq,Bool.not_eq_true',decide_eq_false_iff_not,exists_const,and_assoc,exists_eq,exists_eq',if_true,if_false,Bool.false_eq_true,Bool.true_eq_false,reduceCtorEq,not_true_eq_false,not_false_eq_true]
    refine ⟨_, SqL.of hr', _, hn, _, SqL.of hr', by omega, fun m' m1 m2 => ?_⟩
    rw [Best.one (k := 0) (m := m') ⟨m1, fun b hb => ⟨fun _ => m2 b hb, fun z => absurd rfl z⟩⟩ Bm]
    refine ⟨rfl, ite2 (fun c => ?_) (fun c => ?_)⟩
    · refine ⟨_, hD', by rw [List.length_map]; simp only [sizeLine]; omega, _, upd_same, s.put hD, ?_⟩
      cases c
      rw [idxN_succ, get_getD en, if_pos rfl, List.map_append]
      rfl
    · refine ⟨_, hD', s, ?_⟩
      rw [idxN_succ, get_getD en, if_neg fun z => c (by rw [z])]
  · rintro ys σ H' hD' ⟨s, rfl, u, rfl⟩
    exact q m H' s Bm hD'
theorem comp_max {r D : Addr} {ns : List Int} (hr : H r = some (.lst (ns.map V.int))) (hD : H D = none) (l1 : 1 ≤ ns.length) (ln : ns.length ≤ 6) (q : ∀ (m : Int) (H' : Hp), Same H H' → Best 1 ns m → H' D = some (.lst ((idx ns m).map V.int)) → Q (.ref D) H') :
    CompIt (Itr 0 ns.length) (gName 0) (tTest (tOp rEq (tOp (rIxL K) (tVar 1) (tVar 0)) (tCB (rMaxL K) (tCons (tVar 1) tNil)))) (tVar 0) D Q [none, some (V.ref r)] (upd H D (HO.lst [])) := by
  obtain ⟨m, Bm⟩ := best_ex (k := 1) l1
  refine comp_rangeF (fun i ys σ H' => Same H H' ∧ ys = (idxN ns m i).map V.int ∧ ∃ x, σ = [x, some (.ref r)]) ⟨same_new hD _, rfl, _, rfl⟩ ?_ ?_
  · rintro i ys σ H' hi hD' ⟨s, rfl, u, rfl⟩
    rw [Int.zero_add]
    obtain ⟨n, hn, en⟩ := at_int (ns := ns) (k := (i : Int)) (by omega) (by omega)
    rw [Int.toNat_natCast] at en
    have ll := idxN_len ns m i
    have hr' := s _ _ hr
    simp only [t__law_due_0_eq,t__law_due_1_eq,t__law_due_2_eq,t__law_due_3_eq,↓tVar_c0,↓tVar_c1,↓tVar_c2,↓tVar_c3,↓rI_c,↓rIxL_c,↓ex_bl,↓ex_int,↓ex_ref,↓ex_l1i,↓ex_l1r,↓tComp_eq,↓rMaxL,↓rMinL,↓rSum,capS,↓tNoTest,↓rAppend,Option.bind_some,Option.bind_none,Option.join_some,Option.map_some,List.getElem?_cons_zero,List.getElem?_cons_succ,↓tCallS,↓tTry,V.str.injEq,V.ty.injEq,↓tFor_eq,↓iRng1,↓iList,↓tSeq,↓tNext,↓tAsg,↓gName,↓tCB,↓tCons,↓tNil,tVar,↓tC,↓tOp,↓tTest,↓tB,↓tOr,↓tNot,↓tIfS,↓tRet,↓tLst,↓tTup,↓tCall,rI,↓rEq,rIxL,L2.start,truV_int,truV_bl,scal_int,scal_bl,List.map_cons,List.map_nil,List.length_cons,List.length_nil,List.replicate,List.cons_append,List.nil_append,List.append_nil,Option.some.injEq,exists_eq_left',exists_eq_left,exists_and_left,List.cons.injEq,V.int.injEq,V.ref.injEq,V.bl.injEq,and_true,true_and,List.set_cons_zero,List.set_cons_succ,Nat.reduceAdd,Nat.reduceSub,Int.reduceToNat,Int.reducePow,Int.reduceNeg,Int.reduceMul,Int.reduceAdd,Int.reduceSub,decide_eq_true_eq,Bool.not_eq_true',decide_eq_false_iff_not,exists_const,and_assoc,exists_eq,exists_eq',if_true,if_false,Bool.false_eq_true,Bool.true_eq_false,reduceCtorEq,not_true_eq_false,not_false_eq_true]
    refine ⟨_, SqL.of hr', _, hn, _, SqL.of hr', by omega, fun m' m1 m2 => ?_⟩
    rw [Best.one (k := 1) (m := m') ⟨m1, fun b hb => ⟨fun z => absurd z (by decide), fun _ => m2 b hb⟩⟩ Bm]
    refine ⟨rfl, ite2 (fun c => ?_) (fun c => ?_)⟩
    · refine ⟨_, hD', by rw [List.length_map]; simp only [sizeLine]; omega, _, upd_same, s.put hD, ?_⟩
      cases c
      rw [idxN_succ, get_getD en, if_pos rfl, List.map_append]
      rfl
    · refine ⟨_, hD', s, ?_⟩
      rw [idxN_succ, get_getD en, if_neg fun z => c (by rw [z])]
  · rintro ys σ H' hD' ⟨s, rfl, u, rfl⟩
    exact q m H' s Bm hD'
theorem rd__law_due {t l : Addr} {k : Int} {rs : List Addr} {rows : List (List Int)} {w : Nat} {xs : List V} (hk : k = 0 ∨ k = 1) (B : Tb H t rs rows w) (hl : H l = some (.lst xs)) (hx : ∀ x ∈ xs, Wv x) (lx : xs.length ≤ 7) (q0 : good k xs rows w = false → ∀ H', Same H H' → Q .non H') (q1 : good k xs rows w = true → ∀ (r : Addr) (m : Int) (H' : Hp), Same H H' → H r = none → Best k (sms k xs rows w) m → H' r = some (.lst ((idx (sms k xs rows w) m).map V.int)) → Q (.ref r) H') :
    t__law_due K { nx := fun _ H' => Q .non H', rt := Q } (L2.start ["_law_table_here", "_law_weights_here", "_law_which", "_law_sums"] [.ref t, .ref l, .int k]) H := by
  unfold t__law_due
  obtain ⟨r0, row0, a0, h0, w0⟩ := B.first
  simp only [t__law_due_0_eq,t__law_due_1_eq,t__law_due_2_eq,t__law_due_3_eq,↓tVar_c0,↓tVar_c1,↓tVar_c2,↓tVar_c3,↓rI_c,↓rIxL_c,↓ex_bl,↓ex_int,↓ex_ref,↓ex_l1i,↓ex_l1r,↓tComp_eq,↓rMaxL,↓rMinL,↓rSum,capS,↓tNoTest,↓rAppend,Option.bind_some,Option.bind_none,Option.join_some,Option.map_some,List.getElem?_cons_zero,List.getElem?_cons_succ,↓tCallS,↓tTry,V.str.injEq,V.ty.injEq,↓tFor_eq,↓iRng1,↓iList,↓tSeq,↓tNext,↓tAsg,↓gName,↓tCB,↓tCons,↓tNil,tVar,↓tC,↓tOp,↓tTest,↓tB,↓tOr,↓tNot,↓tIfS,↓tRet,↓tLst,↓tTup,↓tCall,rI,↓rEq,rIxL,L2.start,truV_int,truV_bl,scal_int,scal_bl,List.map_cons,List.map_nil,List.length_cons,List.length_nil,List.replicate,List.cons_append,List.nil_append,List.append_nil,Option.some.injEq,exists_eq_left',exists_eq_left,exists_and_left,List.cons.injEq,V.int.injEq,V.ref.injEq,V.bl.injEq,and_true,true_and,List.set_cons_zero,List.set_cons_succ,Nat.reduceAdd,Nat.reduceSub,Int.reduceToNat,Int.reducePow,Int.reduceNeg,Int.reduceMul,Int.reduceAdd,Int.reduceSub,decide_eq_true_eq,Bool.not_eq_true',decide_eq_false_iff_not,exists_const,and_assoc,exists_eq,exists_eq',if_true,if_false,Bool.false_eq_true,Bool.true_eq_false,reduceCtorEq,not_true_eq_false,not_false_eq_true]
  refine ⟨fun σ H' => H' = H ∧ k = 1 ∧ σ = [some (.ref t), some (.ref l), some (.int k), none], ?_, ?_⟩
  · simp only [t__law_due_0_eq,t__law_due_1_eq,t__law_due_2_eq,t__law_due_3_eq,↓tVar_c0,↓tVar_c1,↓tVar_c2,↓tVar_c3,↓rI_c,↓rIxL_c,↓ex_bl,↓ex_int,↓ex_ref,↓ex_l1i,↓ex_l1r,↓tComp_eq,↓rMaxL,↓rMinL,↓rSum,capS,↓tNoTest,↓rAppend,Option.bind_some,Option.bind_none,Option.join_some,Option.map_some,List.getElem?_cons_zero,List.getElem?_cons_succ,↓tCallS,↓tTry,V.str.injEq,V.ty.injEq,↓tFor_eq,↓iRng1,↓iList,↓tSeq,↓tNext,↓tAsg,↓gName,↓tCB,↓tCons,↓tNil,tVar,↓tC,↓tOp,↓tTest,↓tB,↓tOr,↓tNot,↓tIfS,↓tRet,↓tLst,↓tTup,↓tCall,rI,↓rEq,rIxL,L2.start,truV_int,truV_bl,scal_int,scal_bl,List.map_cons,List.map_nil,List.length_cons,List.length_nil,List.replicate,List.cons_append,List.nil_append,List.append_nil,Option.some.injEq,exists_eq_left',exists_eq_left,exists_and_left,List.cons.injEq,V.int.injEq,V.ref.injEq,V.bl.injEq,and_true,true_and,List.set_cons_zero,List.set_cons_succ,Nat.reduceAdd,Nat.reduceSub,Int.reduceToNat,Int.reducePow,Int.reduceNeg,Int.reduceMul,Int.reduceAdd,Int.reduceSub,decide_eq_true_eq,Bool.not_eq_true',decide_eq_false_iff_not,exists_const,and_assoc,exists_eq,exists_eq',if_true,if_false,Bool.false_eq_true,Bool.true_eq_false,reduceCtorEq,not_true_eq_false,not_false_eq_true]
    refine ite2 (fun z => ?_) (fun z => hk.resolve_left z)
    subst z
    refine ⟨fun σ H' => Same H H' ∧ good 0 xs rows w = true ∧ σ = [some (.ref t), some (.ref l), some (.int 0), none], ?_, ?_⟩
    · simp only [t__law_due_0_eq,t__law_due_1_eq,t__law_due_2_eq,t__law_due_3_eq,↓tVar_c0,↓tVar_c1,↓tVar_c2,↓tVar_c3,↓rI_c,↓rIxL_c,↓ex_bl,↓ex_int,↓ex_ref,↓ex_l1i,↓ex_l1r,↓tComp_eq,↓rMaxL,↓rMinL,↓rSum,capS,↓tNoTest,↓rAppend,Option.bind_some,Option.bind_none,Option.join_some,Option.map_some,List.getElem?_cons_zero,List.getElem?_cons_succ,↓tCallS,↓tTry,V.str.injEq,V.ty.injEq,↓tFor_eq,↓iRng1,↓iList,↓tSeq,↓tNext,↓tAsg,↓gName,↓tCB,↓tCons,↓tNil,tVar,↓tC,↓tOp,↓tTest,↓tB,↓tOr,↓tNot,↓tIfS,↓tRet,↓tLst,↓tTup,↓tCall,rI,↓rEq,rIxL,L2.start,truV_int,truV_bl,scal_int,scal_bl,List.map_cons,List.map_nil,List.length_cons,List.length_nil,List.replicate,List.cons_append,List.nil_append,List.append_nil,Option.some.injEq,exists_eq_left',exists_eq_left,exists_and_left,List.cons.injEq,V.int.injEq,V.ref.injEq,V.bl.injEq,and_true,true_and,List.set_cons_zero,List.set_cons_succ,Nat.reduceAdd,Nat.reduceSub,Int.reduceToNat,Int.reducePow,Int.reduceNeg,Int.reduceMul,Int.reduceAdd,Int.reduceSub,decide_eq_true_eq,Bool.not_eq_true',decide_eq_false_iff_not,exists_const,and_assoc,exists_eq,exists_eq',if_true,if_false,Bool.false_eq_true,Bool.true_eq_false,reduceCtorEq,not_true_eq_false,not_false_eq_true]
      refine ⟨_, SqL.of B.ht, _, a0, _, rfl, _, .inl (SqL.of h0), l, xs, _, rfl, hl, hx, lx, fun H2 s2 => ⟨_, rfl, ?_⟩⟩
      rw [List.length_map, w0]
      exact ite2 (fun c => q0 c _ s2) (fun c => ⟨s2, eq_true_of_ne_false c⟩)
    rintro σ H2 ⟨s2, g2, rfl⟩
    obtain ⟨g3, g4, g5⟩ := gw_parts (show gw xs w = true from g2)
    have B2 := B.same s2
    have hl2 : H2 l = some (.lst ((xs.map iv).map V.int)) := by rw [← g4]; exact s2 _ _ hl
    simp only [t__law_due_0_eq,t__law_due_1_eq,t__law_due_2_eq,t__law_due_3_eq,↓tVar_c0,↓tVar_c1,↓tVar_c2,↓tVar_c3,↓rI_c,↓rIxL_c,↓ex_bl,↓ex_int,↓ex_ref,↓ex_l1i,↓ex_l1r,↓tComp_eq,↓rMaxL,↓rMinL,↓rSum,capS,↓tNoTest,↓rAppend,Option.bind_some,Option.bind_none,Option.join_some,Option.map_some,List.getElem?_cons_zero,List.getElem?_cons_succ,↓tCallS,↓tTry,V.str.injEq,V.ty.injEq,↓tFor_eq,↓iRng1,↓iList,↓tSeq,↓tNext,↓tAsg,↓gName,↓tCB,↓tCons,↓tNil,tVar,↓tC,↓tOp,↓tTest,↓tB,↓tOr,↓tNot,↓tIfS,↓tRet,↓tLst,↓tTup,↓tCall,rI,↓rEq,rIxL,L2.start,truV_int,truV_bl,scal_int,scal_bl,List.map_cons,List.map_nil,List.length_cons,List.length_nil,List.replicate,List.cons_append,List.nil_append,List.append_nil,Option.some.injEq,exists_eq_left',exists_eq_left,exists_and_left,List.cons.injEq,V.int.injEq,V.ref.injEq,V.bl.injEq,and_true,true_and,List.set_cons_zero,List.set_cons_succ,Nat.reduceAdd,Nat.reduceSub,Int.reduceToNat,Int.reducePow,Int.reduceNeg,Int.reduceMul,Int.reduceAdd,Int.reduceSub,decide_eq_true_eq,Bool.not_eq_true',decide_eq_false_iff_not,exists_const,and_assoc,exists_eq,exists_eq',if_true,if_false,Bool.false_eq_true,Bool.true_eq_false,reduceCtorEq,not_true_eq_false,not_false_eq_true]
    have l6 := B.l6
    have l1 := B.l1
    have w6 := B.w6
    have lw : (xs.map iv).length = w := by rw [List.length_map]; omega
    have bw := wv_small hx
    generalize hws : xs.map iv = ws at hl2 lw bw g4 g5
    refine ⟨⟨_, SqL.of B2.ht⟩, fun D hD => ?_⟩
    refine comp_listF (K := K) (xs := rs.map V.ref) (fun i ys σ H' => Same H2 H' ∧ ys = ((rows.take i).map (dot ws)).map V.int ∧ ∃ x, σ = [x, some (.ref l)]) ⟨same_new hD _, rfl, _, rfl⟩ ?_ ?_ ?_
    · rintro i ys σ H' _ ⟨s, _⟩
      exact SqL.of (s _ _ B2.ht)
    · rintro i x ys σ H' hi hD' ⟨s, rfl, y, rfl⟩
      obtain ⟨r, er, rfl⟩ := map_at hi
      obtain ⟨row, e1, e2, e3⟩ := B2.at er
      have li := (List.getElem?_eq_some_iff.mp e1).1
      have hl' := s _ _ hl2
      have e2' := s _ _ e2
      simp only [t__law_due_0_eq,t__law_due_1_eq,t__law_due_2_eq,t__law_due_3_eq,↓tVar_c0,↓tVar_c1,↓tVar_c2,↓tVar_c3,↓rI_c,↓rIxL_c,↓ex_bl,↓ex_int,↓ex_ref,↓ex_l1i,↓ex_l1r,↓tComp_eq,↓rMaxL,↓rMinL,↓rSum,capS,↓tNoTest,↓rAppend,Option.bind_some,Option.bind_none,Option.join_some,Option.map_some,List.getElem?_cons_zero,List.getElem?_cons_succ,↓tCallS,↓tTry,V.str.injEq,V.ty.injEq,↓tFor_eq,↓iRng1,↓iList,↓tSeq,↓tNext,↓tAsg,↓gName,↓tCB,↓tCons,↓tNil,tVar,↓tC,↓tOp,↓tTest,↓tB,↓tOr,↓tNot,↓tIfS,↓tRet,↓tLst,↓tTup,↓tCall,rI,↓rEq,rIxL,L2.start,truV_int,truV_bl,scal_int,scal_bl,List.map_cons,List.map_nil,List.length_cons,List.length_nil,List.replicate,List.cons_append,List.nil_append,List.append_nil,Option.some.injEq,exists_eq_left',exists_eq_left,exists_and_left,List.cons.injEq,V.int.injEq,V.ref.injEq,V.bl.injEq,and_true,true_and,List.set_cons_zero,List.set_cons_succ,Nat.reduceAdd,Nat.reduceSub,Int.reduceToNat,Int.reducePow,Int.reduceNeg,Int.reduceMul,Int.reduceAdd,Int.reduceSub,decide_eq_true_eq,Bool.not_eq_true',decide_eq_false_iff_not,exists_const,and_assoc,exists_eq,exists_eq',if_true,if_false,Bool.false_eq_true,Bool.true_eq_false,reduceCtorEq,not_true_eq_false,not_false_eq_true]
      refine ⟨_, .inl (SqL.of e2'), ?_⟩
      rw [List.length_map, e3, Int.toNat_natCast]
      refine ⟨by omega, by omega, fun D1 hD1 => ?_⟩
      refine comp_rangeF (fun k ys σ H3 => Same H' H3 ∧ ys = ((List.zipWith (fun a b => a * b) ws row).take k).map V.int ∧ ∃ x, σ = [x, some (.ref l), some (.ref r)]) ⟨same_new hD1 _, rfl, _, rfl⟩ ?_ ?_
      · rintro k ys σ H3 hk hD2 ⟨s3, rfl, u, rfl⟩
        rw [Int.zero_add]
        obtain ⟨n, hn, en⟩ := at_int (ns := ws) (k := (k : Int)) (by omega) (by omega)
        obtain ⟨o, ho, eo⟩ := at_int (ns := row) (k := (k : Int)) (by omega) (by omega)
        rw [Int.toNat_natCast] at en eo
        have bn := bw n (mem_at en)
        simp only [t__law_due_0_eq,t__law_due_1_eq,t__law_due_2_eq,t__law_due_3_eq,↓tVar_c0,↓tVar_c1,↓tVar_c2,↓tVar_c3,↓rI_c,↓rIxL_c,↓ex_bl,↓ex_int,↓ex_ref,↓ex_l1i,↓ex_l1r,↓tComp_eq,↓rMaxL,↓rMinL,↓rSum,capS,↓tNoTest,↓rAppend,Option.bind_some,Option.bind_none,Option.join_some,Option.map_some,List.getElem?_cons_zero,List.getElem?_cons_succ,↓tCallS,↓tTry,V.str.injEq,V.ty.injEq,↓tFor_eq,↓iRng1,↓iList,↓tSeq,↓tNext,↓tAsg,↓gName,↓tCB,↓tCons,↓tNil,tVar,↓tC,↓tOp,↓tTest,↓tB,↓tOr,↓tNot,↓tIfS,↓tRet,↓tLst,↓tTup,↓tCall,rI,↓rEq,rIxL,L2.start,truV_int,truV_bl,scal_int,scal_bl,List.map_cons,List.map_nil,List.length_cons,List.length_nil,List.replicate,List.cons_append,List.nil_append,List.append_nil,Option.some.injEq,exists_eq_left',exists_eq_left,exists_and_left,List.cons.injEq,V.int.injEq,V.ref.injEq,V.bl.injEq,and_true,true_and,List.set_cons_zero,List.set_cons_succ,Nat.reduceAdd,Nat.reduceSub,Int.reduceToNat,Int.reducePow,Int.reduceNeg,Int.reduceMul,Int.reduceAdd,Int.reduceSub,decide_eq_true_eq,Bool.not_eq_true',decide_eq_false_iff_not,exists_const,and_assoc,exists_eq,exists_eq',if_true,if_false,Bool.false_eq_true,Bool.true_eq_false,reduceCtorEq,not_true_eq_false,not_false_eq_true]
        refine ⟨_, SqL.of (s3 _ _ hl'), _, hn, _, SqL.of (s3 _ _ e2'), _, ho, n, rfl, o, rfl, mulL (by omega) (by omega), _, hD2, ?_, _, upd_same, s3.put hD1, ?_⟩
        · rw [List.length_map, List.length_take]
          simp only [sizeLine]
          omega
        · rw [zip_succ en eo, List.map_append]
          rfl
      · rintro ys σ H3 hD2 ⟨s3, rfl, u, rfl⟩
        rw [zip_all (by omega)] at hD2
        refine ⟨D1, rfl, _, SqL.of hD2, _, s3 _ _ hD', ?_, _, upd_same, (s.trans s3).put hD, ?_⟩
        · rw [List.length_map, List.length_map, List.length_take]
          simp only [sizeLine]
          omega
        · rw [take_succ_map e1, List.map_append]
          rfl
    · rintro ys σ H' hD' ⟨s, rfl, y, rfl⟩
      rw [List.length_map, B.len, List.take_length] at hD'
      have ls : (rows.map (dot ws)).length = rows.length := List.length_map ..
      refine ⟨D, rfl, _, .inl (SqL.of hD'), ?_⟩
      rw [List.length_map, Int.toNat_natCast]
      refine ⟨by omega, by omega, fun D2 hD2 => comp_min hD' hD2 (by omega) (by omega) fun m H4 s4 Bm h4 => ?_⟩
      have e : sms 0 xs rows w = rows.map (dot ws) := by
        unfold sms rsums
        rw [if_pos rfl, hws]
      exact q1 g2 D2 m H4 ((s2.trans s).trans s4) ((s2.trans s).free hD2) (by rw [e]; exact Bm) (by rw [e]; exact h4)
  rintro σ H1 ⟨rfl, rfl, rfl⟩
  simp only [t__law_due_0_eq,t__law_due_1_eq,t__law_due_2_eq,t__law_due_3_eq,↓tVar_c0,↓tVar_c1,↓tVar_c2,↓tVar_c3,↓rI_c,↓rIxL_c,↓ex_bl,↓ex_int,↓ex_ref,↓ex_l1i,↓ex_l1r,↓tComp_eq,↓rMaxL,↓rMinL,↓rSum,capS,↓tNoTest,↓rAppend,Option.bind_some,Option.bind_none,Option.join_some,Option.map_some,List.getElem?_cons_zero,List.getElem?_cons_succ,↓tCallS,↓tTry,V.str.injEq,V.ty.injEq,↓tFor_eq,↓iRng1,↓iList,↓tSeq,↓tNext,↓tAsg,↓gName,↓tCB,↓tCons,↓tNil,tVar,↓tC,↓tOp,↓tTest,↓tB,↓tOr,↓tNot,↓tIfS,↓tRet,↓tLst,↓tTup,↓tCall,rI,↓rEq,rIxL,L2.start,truV_int,truV_bl,scal_int,scal_bl,List.map_cons,List.map_nil,List.length_cons,List.length_nil,List.replicate,List.cons_append,List.nil_append,List.append_nil,Option.some.injEq,exists_eq_left',exists_eq_left,exists_and_left,List.cons.injEq,V.int.injEq,V.ref.injEq,V.bl.injEq,and_true,true_and,List.set_cons_zero,List.set_cons_succ,Nat.reduceAdd,Nat.reduceSub,Int.reduceToNat,Int.reducePow,Int.reduceNeg,Int.reduceMul,Int.reduceAdd,Int.reduceSub,decide_eq_true_eq,Bool.not_eq_true',decide_eq_false_iff_not,exists_const,and_assoc,exists_eq,exists_eq',if_true,if_false,Bool.false_eq_true,Bool.true_eq_false,reduceCtorEq,not_true_eq_false,not_false_eq_true]
  refine ⟨fun σ H' => Same H1 H' ∧ good 1 xs rows w = true ∧ σ = [some (.ref t), some (.ref l), some (.int 1), none], ?_, ?_⟩
  · simp only [t__law_due_0_eq,t__law_due_1_eq,t__law_due_2_eq,t__law_due_3_eq,↓tVar_c0,↓tVar_c1,↓tVar_c2,↓tVar_c3,↓rI_c,↓rIxL_c,↓ex_bl,↓ex_int,↓ex_ref,↓ex_l1i,↓ex_l1r,↓tComp_eq,↓rMaxL,↓rMinL,↓rSum,capS,↓tNoTest,↓rAppend,Option.bind_some,Option.bind_none,Option.join_some,Option.map_some,List.getElem?_cons_zero,List.getElem?_cons_succ,↓tCallS,↓tTry,V.str.injEq,V.ty.injEq,↓tFor_eq,↓iRng1,↓iList,↓tSeq,↓tNext,↓tAsg,↓gName,↓tCB,↓tCons,↓tNil,tVar,↓tC,↓tOp,↓tTest,↓tB,↓tOr,↓tNot,↓tIfS,↓tRet,↓tLst,↓tTup,↓tCall,rI,↓rEq,rIxL,L2.start,truV_int,truV_bl,scal_int,scal_bl,List.map_cons,List.map_nil,List.length_cons,List.length_nil,List.replicate,List.cons_append,List.nil_append,List.append_nil,Option.some.injEq,exists_eq_left',exists_eq_left,exists_and_left,List.cons.injEq,V.int.injEq,V.ref.injEq,V.bl.injEq,and_true,true_and,List.set_cons_zero,List.set_cons_succ,Nat.reduceAdd,Nat.reduceSub,Int.reduceToNat,Int.reducePow,Int.reduceNeg,Int.reduceMul,Int.reduceAdd,Int.reduceSub,decide_eq_true_eq,Bool.not_eq_true',decide_eq_false_iff_not,exists_const,and_assoc,exists_eq,exists_eq',if_true,if_false,Bool.false_eq_true,Bool.true_eq_false,reduceCtorEq,not_true_eq_false,not_false_eq_true]
    refine ⟨_, .inl (SqL.of B.ht), l, xs, _, rfl, hl, hx, lx, fun H2 s2 => ⟨_, rfl, ?_⟩⟩
    rw [List.length_map, B.len]
    exact ite2 (fun c => q0 c _ s2) (fun c => ⟨s2, eq_true_of_ne_false c⟩)
  rintro σ H2 ⟨s2, g2, rfl⟩
  obtain ⟨g3, g4, g5⟩ := gw_parts (show gw xs rows.length = true from g2)
  have B2 := B.same s2
  have hl2 : H2 l = some (.lst ((xs.map iv).map V.int)) := by rw [← g4]; exact s2 _ _ hl
  simp only [t__law_due_0_eq,t__law_due_1_eq,t__law_due_2_eq,t__law_due_3_eq,↓tVar_c0,↓tVar_c1,↓tVar_c2,↓tVar_c3,↓rI_c,↓rIxL_c,↓ex_bl,↓ex_int,↓ex_ref,↓ex_l1i,↓ex_l1r,↓tComp_eq,↓rMaxL,↓rMinL,↓rSum,capS,↓tNoTest,↓rAppend,Option.bind_some,Option.bind_none,Option.join_some,Option.map_some,List.getElem?_cons_zero,List.getElem?_cons_succ,↓tCallS,↓tTry,V.str.injEq,V.ty.injEq,↓tFor_eq,↓iRng1,↓iList,↓tSeq,↓tNext,↓tAsg,↓gName,↓tCB,↓tCons,↓tNil,tVar,↓tC,↓tOp,↓tTest,↓tB,↓tOr,↓tNot,↓tIfS,↓tRet,↓tLst,↓tTup,↓tCall,rI,↓rEq,rIxL,L2.start,truV_int,truV_bl,scal_int,scal_bl,List.map_cons,List.map_nil,List.length_cons,List.length_nil,List.replicate,List.cons_append,List.nil_append,List.append_nil,Option.some.injEq,exists_eq_left',exists_eq_left,exists_and_left,List.cons.injEq,V.int.injEq,V.ref.injEq,V.bl.injEq,and_true,true_and,List.set_cons_zero,List.set_cons_succ,Nat.reduceAdd,Nat.reduceSub,Int.reduceToNat,Int.reducePow,Int.reduceNeg,Int.reduceMul,Int.reduceAdd,Int.reduceSub,decide_eq_true_eq,Bool.not_eq_true',decide_eq_false_iff_not,exists_const,and_assoc,exists_eq,exists_eq',if_true,if_false,Bool.false_eq_true,Bool.true_eq_false,reduceCtorEq,not_true_eq_false,not_false_eq_true]
  have l6 := B.l6
  have l1 := B.l1
  have w6 := B.w6
  have w1 := B.w1
  have len := B.len
  have lw : (xs.map iv).length = rows.length := by rw [List.length_map]; omega
  have bw := wv_small hx
  generalize hws : xs.map iv = ws at hl2 lw bw g4 g5
  refine ⟨_, SqL.of B2.ht, _, a0, _, rfl, _, .inl (SqL.of (s2 _ _ h0)), ?_⟩
  rw [List.length_map, w0, Int.toNat_natCast]
  refine ⟨by omega, by omega, fun D hD => ?_⟩
  refine comp_rangeF (fun j ys σ H' => Same H2 H' ∧ ys = ((List.range j).map (cdot ws rows)).map V.int ∧ ∃ x, σ = [x, some (.ref l), some (.ref t)]) ⟨same_new hD _, rfl, _, rfl⟩ ?_ ?_
  · rintro j ys σ H' hj hD' ⟨s, rfl, y, rfl⟩
    rw [Int.zero_add]
    have hl' := s _ _ hl2
    have ht' := s _ _ B2.ht
    simp only [t__law_due_0_eq,t__law_due_1_eq,t__law_due_2_eq,t__law_due_3_eq,↓tVar_c0,↓tVar_c1,↓tVar_c2,↓tVar_c3,↓rI_c,↓rIxL_c,↓ex_bl,↓ex_int,↓ex_ref,↓ex_l1i,↓ex_l1r,↓tComp_eq,↓rMaxL,↓rMinL,↓rSum,capS,↓tNoTest,↓rAppend,Option.bind_some,Option.bind_none,Option.join_some,Option.map_some,List.getElem?_cons_zero,List.getElem?_cons_succ,↓tCallS,↓tTry,V.str.injEq,V.ty.injEq,↓tFor_eq,↓iRng1,↓iList,↓tSeq,↓tNext,↓tAsg,↓gName,↓tCB,↓tCons,↓tNil,tVar,↓tC,↓tOp,↓tTest,↓tB,↓tOr,↓tNot,↓tIfS,↓tRet,↓tLst,↓tTup,↓tCall,rI,↓rEq,rIxL,L2.start,truV_int,truV_bl,scal_int,scal_bl,List.map_cons,List.map_nil,List.length_cons,List.length_nil,List.replicate,List.cons_append,List.nil_append,List.append_nil,Option.some.injEq,exists_eq_left',exists_eq_left,exists_and_left,List.cons.injEq,V.int.injEq,V.ref.injEq,V.bl.injEq,and_true,true_and,List.set_cons_zero,List.set_cons_succ,Nat.reduceAdd,Nat.reduceSub,Int.reduceToNat,Int.reducePow,Int.reduceNeg,Int.reduceMul,Int.reduceAdd,Int.reduceSub,decide_eq_true_eq,Bool.not_eq_true',decide_eq_false_iff_not,exists_const,and_assoc,exists_eq,exists_eq',if_true,if_false,Bool.false_eq_true,Bool.true_eq_false,reduceCtorEq,not_true_eq_false,not_false_eq_true]
    refine ⟨_, .inl (SqL.of ht'), ?_⟩
    rw [List.length_map, len, Int.toNat_natCast]
    refine ⟨by omega, by omega, fun D1 hD1 => ?_⟩
    refine comp_rangeF (fun k ys σ H3 => Same H' H3 ∧ ys = ((List.zipWith (fun a r => a * r.getD j 0) ws rows).take k).map V.int ∧ ∃ x, σ = [x, some (.ref l), some (.int j), some (.ref t)]) ⟨same_new hD1 _, rfl, _, rfl⟩ ?_ ?_
    · rintro k ys σ H3 hk hD2 ⟨s3, rfl, u, rfl⟩
      rw [Int.zero_add]
      obtain ⟨n, hn, en⟩ := at_int (ns := ws) (k := (k : Int)) (by omega) (by omega)
      have er : rs[k]? = some rs[k] := List.getElem?_eq_getElem (by omega)
      obtain ⟨row, e1, e2, e3⟩ := B2.at er
      obtain ⟨o, ho, eo⟩ := at_int (ns := row) (k := (j : Int)) (by omega) (by omega)
      rw [Int.toNat_natCast] at en eo
      have bn := bw n (mem_at en)
      simp only [t__law_due_0_eq,t__law_due_1_eq,t__law_due_2_eq,t__law_due_3_eq,↓tVar_c0,↓tVar_c1,↓tVar_c2,↓tVar_c3,↓rI_c,↓rIxL_c,↓ex_bl,↓ex_int,↓ex_ref,↓ex_l1i,↓ex_l1r,↓tComp_eq,↓rMaxL,↓rMinL,↓rSum,capS,↓tNoTest,↓rAppend,Option.bind_some,Option.bind_none,Option.join_some,Option.map_some,List.getElem?_cons_zero,List.getElem?_cons_succ,↓tCallS,↓tTry,V.str.injEq,V.ty.injEq,↓tFor_eq,↓iRng1,↓iList,↓tSeq,↓tNext,↓tAsg,↓gName,↓tCB,↓tCons,↓tNil,tVar,↓tC,↓tOp,↓tTest,↓tB,↓tOr,↓tNot,↓tIfS,↓tRet,↓tLst,↓tTup,↓tCall,rI,↓rEq,rIxL,L2.start,truV_int,truV_bl,scal_int,scal_bl,List.map_cons,List.map_nil,List.length_cons,List.length_nil,List.replicate,List.cons_append,List.nil_append,List.append_nil,Option.some.injEq,exists_eq_left',exists_eq_left,exists_and_left,List.cons.injEq,V.int.injEq,V.ref.injEq,V.bl.injEq,and_true,true_and,List.set_cons_zero,List.set_cons_succ,Nat.reduceAdd,Nat.reduceSub,Int.reduceToNat,Int.reducePow,Int.reduceNeg,Int.reduceMul,Int.reduceAdd,Int.reduceSub,decide_eq_true_eq,Bool.not_eq_true',decide_eq_false_iff_not,exists_const,and_assoc,exists_eq,exists_eq',if_true,if_false,Bool.false_eq_true,Bool.true_eq_false,reduceCtorEq,not_true_eq_false,not_false_eq_true]
      refine ⟨_, SqL.of (s3 _ _ hl'), _, hn, _, SqL.of (s3 _ _ ht'), _, at_ref er, _, rfl, _, SqL.of (s3 _ _ (s _ _ e2)), _, ho, n, rfl, o, rfl, mulL (by omega) (by omega), _, hD2, ?_, _, upd_same, s3.put hD1, ?_⟩
      · rw [List.length_map, List.length_take]
        simp only [sizeLine]
        omega
      · rw [zip_succ en e1, List.map_append, get_getD eo]
        rfl
    · rintro ys σ H3 hD2 ⟨s3, rfl, u, rfl⟩
      rw [zip_all (by omega)] at hD2
      refine ⟨D1, rfl, _, SqL.of hD2, _, s3 _ _ hD', ?_, _, upd_same, (s.trans s3).put hD, ?_⟩
      · rw [List.length_map, List.length_map, List.length_range]
        simp only [sizeLine]
        omega
      · rw [List.range_succ, List.map_append, List.map_append]
        rfl
  · rintro ys σ H' hD' ⟨s, rfl, y, rfl⟩
    have ls : ((List.range w).map (cdot ws rows)).length = w := by rw [List.length_map, List.length_range]
    refine ⟨D, rfl, _, .inl (SqL.of hD'), ?_⟩
    rw [List.length_map, Int.toNat_natCast]
    refine ⟨by omega, by omega, fun D2 hD2 => comp_max hD' hD2 (by omega) (by omega) fun m H4 s4 Bm h4 => ?_⟩
    have e : sms 1 xs rows w = (List.range w).map (cdot ws rows) := by
      unfold sms csums
      rw [if_neg (by decide), hws]
    exact q1 g2 D2 m H4 ((s2.trans s).trans s4) ((s2.trans s).free hD2) (by rw [e]; exact Bm) (by rw [e]; exact h4)
theorem sc__law_due : FnScope ["_law_table_here", "_law_weights_here", "_law_which", "_law_sums"] ["_law_table_here", "_law_weights_here", "_law_which"] (defScope s__law_due) := ⟨rfl, rfl, rfl, by decide +kernel, rfl, by decide +kernel, by decide +kernel⟩
theorem ok__law_due (T : Txt K mg a) : FnOk P w K mg base CX0 3 a.f__law_due a.d__law_due ["_law_table_here", "_law_weights_here", "_law_which"] (spDue K) := by
  have G__law_weights := ok__law_weights (P := P) (w := w) (base := base) T
  refine T.F__law_due.ok sc__law_due (fun vs H Q E h => ?_) (fun cdv A outer s H vs Q E hr h => ?_)
  · obtain ⟨t, l, k, rs, rows, w, xs, rfl, hk, B, hl, hx, lx, q0, q1⟩ := h
    rfl
  obtain ⟨t, l, k, rs, rows, w, xs, rfl, hk, B, hl, hx, lx, q0, q1⟩ := h
  exact ⟨t__law_due K, (pss_cons (ps_cut (ps_if (pt_cmpR op_eq (pv 2) pe_int (nomark _)) (pss_cons (ps_cut (ps_if (pt_not (pt_val (pe_call G__law_weights (hr.mono (by decide)) rfl T.m__law_weights T.F__law_weights.kp T.b__law_weights .nil pass0 (pa_cons (pv 1) (pa_cons (pe_callB call_len_seq rfl T.z_len PySem.boot_len (pa_cons (pe_ix ix_list (pv 0) pe_int (fun _ _ => rfl)) pa_nil)) pa_nil))))) (pss_one (ps_ret pe_non)) pss_nil))
  (pss_cons (ps_set (i := 3) sc__law_due.nd rfl (Or.inr rfl) (pe_compC (sc := defScope s__law_due) (N := ["_law_table_here", "_law_weights_here", "_law_which", "_law_sums"]) (Nc := ["_law_row", "_law_weights_here"]) (cap := [none, some 1]) rfl rfl rfl (.of (by decide +kernel)) (pi_list (pv 0)) (fun _ _ _ _ => (pg_name (i := 0) (show List.Nodup (["_law_row", "_law_weights_here"] : List Str) from by decide) rfl (Or.inr rfl))) (fun _ _ _ _ => pts_nil) (fun _ _ _ _ => (pe_callB (call_sum rfl) rfl T.z_sum PyProof.Rows.boot_sum (pa_cons (pe_comp (N := ["_law_row", "_law_weights_here"]) (Nc := ["_law_j", "_law_weights_here", "_law_row"]) (cap := [none, some 1, some 0]) rfl (blkC_sc.trans (congrArg (relabelS _) (rfl : _ = defScope s__law_due))) rfl (.of (by decide +kernel)) (pi_range1 rfl T.z_range (pa_cons (pe_callB call_len_seq rfl T.z_len PySem.boot_len (pa_cons (pv 0) pa_nil)) pa_nil)) (fun _ _ _ _ => (pg_name (i := 0) (show List.Nodup (["_law_j", "_law_weights_here", "_law_row"] : List Str) from by decide) rfl (Or.inl rfl))) (fun _ _ _ _ => pts_nil) (fun _ _ _ _ => (pe_op op_mulG (pe_ix ix_list (pv 1) (pv 0) (fun _ _ => rfl)) (pe_ix ix_list (pv 2) (pv 0) (fun _ _ => rfl))))) pa_nil)))))
  (pss_one (ps_ret (pe_comp (sc := defScope s__law_due) (N := ["_law_table_here", "_law_weights_here", "_law_which", "_law_sums"]) (Nc := ["_law_i", "_law_sums"]) (cap := [none, some 3]) rfl rfl rfl (.of (by decide +kernel)) (pi_range1 rfl T.z_range (pa_cons (pe_callB call_len_seq rfl T.z_len PySem.boot_len (pa_cons (pv 3) pa_nil)) pa_nil)) (fun _ _ _ _ => (pg_name (i := 0) (show List.Nodup (["_law_i", "_law_sums"] : List Str) from by decide) rfl (Or.inl rfl))) (fun _ _ _ _ => (pts_one (pt_cmpR op_eq (pe_ix ix_list (pv 1) (pv 0) (fun _ _ => rfl)) (pe_callB (call_minL rfl) rfl T.z_min PyProof.Rows.boot_min (pa_cons (pv 1) pa_nil)) (nomark _)))) (fun _ _ _ _ => (pv 0))))))) pss_nil))
  (pss_cons (ps_cut (ps_if (pt_not (pt_val (pe_call G__law_weights (hr.mono (by decide)) rfl T.m__law_weights T.F__law_weights.kp T.b__law_weights .nil pass0 (pa_cons (pv 1) (pa_cons (pe_callB call_len_seq rfl T.z_len PySem.boot_len (pa_cons (pv 0) pa_nil)) pa_nil))))) (pss_one (ps_ret pe_non)) pss_nil))
  (pss_cons (ps_set (i := 3) sc__law_due.nd rfl (Or.inr rfl) (pe_compC (sc := defScope s__law_due) (N := ["_law_table_here", "_law_weights_here", "_law_which", "_law_sums"]) (Nc := ["_law_j", "_law_weights_here", "_law_table_here"]) (cap := [none, some 1, some 0]) rfl rfl rfl (.of (by decide +kernel)) (pi_range1 rfl T.z_range (pa_cons (pe_callB call_len_seq rfl T.z_len PySem.boot_len (pa_cons (pe_ix ix_list (pv 0) pe_int (fun _ _ => rfl)) pa_nil)) pa_nil)) (fun _ _ _ _ => (pg_name (i := 0) (show List.Nodup (["_law_j", "_law_weights_here", "_law_table_here"] : List Str) from by decide) rfl (Or.inr rfl))) (fun _ _ _ _ => pts_nil) (fun _ _ _ _ => (pe_callB (call_sum rfl) rfl T.z_sum PyProof.Rows.boot_sum (pa_cons (pe_comp (N := ["_law_j", "_law_weights_here", "_law_table_here"]) (Nc := ["_law_i", "_law_weights_here", "_law_j", "_law_table_here"]) (cap := [none, some 1, some 0, some 2]) rfl (blkC_sc.trans (congrArg (relabelS _) (rfl : _ = defScope s__law_due))) rfl (.of (by decide +kernel)) (pi_range1 rfl T.z_range (pa_cons (pe_callB call_len_seq rfl T.z_len PySem.boot_len (pa_cons (pv 2) pa_nil)) pa_nil)) (fun _ _ _ _ => (pg_name (i := 0) (show List.Nodup (["_law_i", "_law_weights_here", "_law_j", "_law_table_here"] : List Str) from by decide) rfl (Or.inl rfl))) (fun _ _ _ _ => pts_nil) (fun _ _ _ _ => (pe_op op_mulG (pe_ix ix_list (pv 1) (pv 0) (fun _ _ => rfl)) (pe_ix ix_list (pe_ix ix_list (pv 3) (pv 0) (fun _ _ => rfl)) (pv 2) (fun _ _ => rfl))))) pa_nil)))))
  (pss_one (ps_ret (pe_comp (sc := defScope s__law_due) (N := ["_law_table_here", "_law_weights_here", "_law_which", "_law_sums"]) (Nc := ["_law_j", "_law_sums"]) (cap := [none, some 3]) rfl rfl rfl (.of (by decide +kernel)) (pi_range1 rfl T.z_range (pa_cons (pe_callB call_len_seq rfl T.z_len PySem.boot_len (pa_cons (pv 3) pa_nil)) pa_nil)) (fun _ _ _ _ => (pg_name (i := 0) (show List.Nodup (["_law_j", "_law_sums"] : List Str) from by decide) rfl (Or.inl rfl))) (fun _ _ _ _ => (pts_one (pt_cmpR op_eq (pe_ix ix_list (pv 1) (pv 0) (fun _ _ => rfl)) (pe_callB (call_maxL rfl) rfl T.z_max PyProof.Rows.boot_max (pa_cons (pv 1) pa_nil)) (nomark _)))) (fun _ _ _ _ => (pv 0)))))))),
    rd__law_due hk B hl hx lx q0 q1⟩
def spAnswer (K : PySem.W.Frag) : Sp := fun vs H Q _ => ∃ (t l : Addr) (k : Int) (rs : List Addr) (rows : List (List Int)) (w : Nat) (xs : List V), vs = [.ref t, .ref l, .int k] ∧ (k = 0 ∨ k = 1) ∧ Tb H t rs rows w ∧ H l = some (.lst xs) ∧ (∀ x ∈ xs, Wv x) ∧ xs.length ≤ 7 ∧ (good k xs rows w = false → ∀ H', Same H H' → Q .non H') ∧ (good k xs rows w = true → ∀ (r : Addr) (m : Int) (H' : Hp), Same H H' → H r = none → Best k (sms k xs rows w) m → H' r = some (.lst ((idx (sms k xs rows w) m).map V.int)) → Q (.ref r) H')
theorem isiT_exc {r tp : Addr} {cs : List V} {cv : Value} {cvs : List Value} {b : Bool} (h : H r = some (excO r cv)) (k : ExcCls K cv) (ht : H tp = some (.tup cs)) (hc : clsVs cs = some cvs) (e : PySem.W.kitAny K cv cvs = some b) (q : Q (.bl b) H) : rIsiT K [.ref r, .ref tp] H Q :=
  ⟨r, tp, cs, cv, cvs, b, rfl, h, k, SqT.of ht, hc, e, q⟩
def t__law_answer_0 (K : PySem.W.Frag) (a : Ad) : TS :=
  (tRet (tOp (rIxL K) (tLst (tCons (tC (.str "other")) (tCons (tC .non) tNil))) (tCB (fun xs H Q => (∃ i, xs = [.int i] ∧ Q (.int i) H) ∨ ∃ k, xs = [.bl k] ∧ Q (.int (if k then 1 else 0)) H) (tCons (tCB (rIsi K) (tCons (tVar 3) (tCons (tC (.ref a.c_NoWeights)) tNil))) tNil))))
theorem t__law_answer_0_eq (K : PySem.W.Frag) (a : Ad) (D : Ends) (σ : St) (H : Hp) : t__law_answer_0 K a D σ H = (tRet (tOp (rIxL K) (tLst (tCons (tC (.str "other")) (tCons (tC .non) tNil))) (tCB (fun xs H Q => (∃ i, xs = [.int i] ∧ Q (.int i) H) ∨ ∃ k, xs = [.bl k] ∧ Q (.int (if k then 1 else 0)) H) (tCons (tCB (rIsi K) (tCons (tVar 3) (tCons (tC (.ref a.c_NoWeights)) tNil))) tNil)))) D σ H := rfl
def t__law_answer_1 (K : PySem.W.Frag) (a : Ad) : TS :=
  (tIfS (tOr (tB (tCB (rIsiT K) (tCons (tVar 3) (tCons (tTup (tCons (tC (.ref a.c_NoBoxes)) (tCons (tC (.ref a.c_NoOrder)) (tCons (tC (.ref a.c_NoTable)) tNil)))) tNil)))) (tNot (tB (tCB (rIsi K) (tCons (tVar 3) (tCons (tC (.ty "ValueError")) tNil)))))) (tRet (tC (.str "other"))) tNext)
theorem t__law_answer_1_eq (K : PySem.W.Frag) (a : Ad) (D : Ends) (σ : St) (H : Hp) : t__law_answer_1 K a D σ H = (tIfS (tOr (tB (tCB (rIsiT K) (tCons (tVar 3) (tCons (tTup (tCons (tC (.ref a.c_NoBoxes)) (tCons (tC (.ref a.c_NoOrder)) (tCons (tC (.ref a.c_NoTable)) tNil)))) tNil)))) (tNot (tB (tCB (rIsi K) (tCons (tVar 3) (tCons (tC (.ty "ValueError")) tNil)))))) (tRet (tC (.str "other"))) tNext) D σ H := rfl
def t__law_answer (K : PySem.W.Frag) (a : Ad) : TS :=
  (tTry K (fun E' => (tSeq (tCut (tIfS (tTest (tOp rEq (tVar 2) (tC (.int 0)))) (tRet (tCallS (spBestRows K a) [] E' (tCons (tVar 0) (tCons (tVar 1) tNil)))) tNext))
  (tRet (tCallS (spBestCols K a) [] E' (tCons (tVar 0) (tCons (tVar 1) tNil)))))) (.ref a.c_HideError) 3
  (tSeq (tCut (t__law_answer_1 K a))
  (t__law_answer_0 K a)))
theorem answer_exc {σ0 σ1 σ2 : Option V} {ex : Addr} {H1 H0 : Hp} (I : Isa K a) (s1 : Same H0 H1) (nx : H1 ex = none) (q : ∀ H', Same H0 H' → Q .non H') {nx' : St → Hp → Prop} :
    tCut (t__law_answer_1 K a) { nx := t__law_answer_0 K a { nx := nx', rt := Q }, rt := Q } [σ0, σ1, σ2, some (.ref ex)] (L2.upd H1 ex (excO ex (.ref a.c_NoWeights))) := by
  have s2 := s1.add nx (o := excO ex (.ref a.c_NoWeights))
  have h1 : (L2.upd H1 ex (excO ex (.ref a.c_NoWeights))) ex = some (excO ex (.ref a.c_NoWeights)) := upd_same
  generalize L2.upd H1 ex (excO ex (.ref a.c_NoWeights)) = H2 at s2 h1 ⊢
  refine ⟨fun σ H' => Same H0 H' ∧ H' ex = some (excO ex (.ref a.c_NoWeights)) ∧ σ = [σ0, σ1, σ2, some (.ref ex)], ?_, ?_⟩
  · simp only [t__law_answer_0_eq,t__law_answer_1_eq,↓tVar_c0,↓tVar_c1,↓tVar_c2,↓tVar_c3,↓tVar_c4,↓tVar_c5,↓tVar_c6,↓tVar_c7,↓tVar_c8,↓tVar_c10,↓rI0_c,↓rIxL_c,↓ex_bl,↓ex_int,↓ex_ref,↓ex_l1i,↓ex_l1r,↓rNeDN,↓rIn,↓tComp_eq,↓rNeD,capS,↓tNoTest,↓tSl,↓tNoPart,↓tPart,↓rSlL,↓rAppend,Option.bind_some,Option.bind_none,Option.join_some,Option.map_some,List.getElem?_cons_zero,List.getElem?_cons_succ,↓tCallS,↓tTry,↓rCat,V.str.injEq,V.ty.injEq,↓tBM,↓tFor_eq,↓iRng1,↓iList,↓tSeq,↓tNext,↓tAsg,↓gName,↓tCB,↓tCons,↓tNil,tVar,↓tC,↓tOp,↓tTest,↓tB,↓tOr,↓tNot,↓tIfS,↓tRet,↓tDrop,↓tLst,↓tTup,↓tCall,rI0,↓rEq,rIxL,L2.start,truV_int,truV_bl,scal_int,scal_bl,List.map_cons,List.map_nil,List.length_cons,List.length_nil,List.replicate,List.cons_append,List.nil_append,List.append_nil,Option.some.injEq,exists_eq_left',exists_eq_left,exists_and_left,List.cons.injEq,V.int.injEq,V.ref.injEq,V.bl.injEq,and_true,true_and,List.set_cons_zero,List.set_cons_succ,Nat.reduceAdd,Nat.reduceSub,Int.reduceToNat,Int.reducePow,Int.reduceNeg,Int.reduceMul,Int.reduceAdd,Int.reduceSub,decide_eq_true_eq,Bool.not_eq_true',decide_eq_false_iff_not,exists_const,and_assoc,exists_eq,exists_eq',if_true,if_false,Bool.false_eq_true,Bool.true_eq_false,reduceCtorEq,not_true_eq_false,not_false_eq_true]
    refine ⟨by decide, fun u hu => ?_⟩
    refine isiT_exc (same_new hu _ _ _ h1) I.ec upd_same rfl (b := false) (by simp only [PySem.W.kitAny,I.k_NoBoxes,I.k_NoOrder,I.k_NoTable]) ⟨false, rfl, iteF ?_⟩
    refine isi_exc rfl (same_new hu _ _ _ h1) I.ec I.k_ValueError ⟨true, rfl, ?_⟩
    rw [if_neg Bool.noConfusion]
    exact ⟨s2.add hu, same_new hu _ _ _ h1⟩
  rintro σ H3 ⟨s3, h3, rfl⟩
  simp only [t__law_answer_0_eq,t__law_answer_1_eq,↓tVar_c0,↓tVar_c1,↓tVar_c2,↓tVar_c3,↓tVar_c4,↓tVar_c5,↓tVar_c6,↓tVar_c7,↓tVar_c8,↓tVar_c10,↓rI0_c,↓rIxL_c,↓ex_bl,↓ex_int,↓ex_ref,↓ex_l1i,↓ex_l1r,↓rNeDN,↓rIn,↓tComp_eq,↓rNeD,capS,↓tNoTest,↓tSl,↓tNoPart,↓tPart,↓rSlL,↓rAppend,Option.bind_some,Option.bind_none,Option.join_some,Option.map_some,List.getElem?_cons_zero,List.getElem?_cons_succ,↓tCallS,↓tTry,↓rCat,V.str.injEq,V.ty.injEq,↓tBM,↓tFor_eq,↓iRng1,↓iList,↓tSeq,↓tNext,↓tAsg,↓gName,↓tCB,↓tCons,↓tNil,tVar,↓tC,↓tOp,↓tTest,↓tB,↓tOr,↓tNot,↓tIfS,↓tRet,↓tDrop,↓tLst,↓tTup,↓tCall,rI0,↓rEq,rIxL,L2.start,truV_int,truV_bl,scal_int,scal_bl,List.map_cons,List.map_nil,List.length_cons,List.length_nil,List.replicate,List.cons_append,List.nil_append,List.append_nil,Option.some.injEq,exists_eq_left',exists_eq_left,exists_and_left,List.cons.injEq,V.int.injEq,V.ref.injEq,V.bl.injEq,and_true,true_and,List.set_cons_zero,List.set_cons_succ,Nat.reduceAdd,Nat.reduceSub,Int.reduceToNat,Int.reducePow,Int.reduceNeg,Int.reduceMul,Int.reduceAdd,Int.reduceSub,decide_eq_true_eq,Bool.not_eq_true',decide_eq_false_iff_not,exists_const,and_assoc,exists_eq,exists_eq',if_true,if_false,Bool.false_eq_true,Bool.true_eq_false,reduceCtorEq,not_true_eq_false,not_false_eq_true]
  refine ⟨by decide, fun u hu => isi_exc rfl (same_new hu _ _ _ h3) I.ec I.k_NoWeights (.inr ⟨true, rfl, _, SqL.of upd_same, _, rfl, q _ (s3.add hu)⟩)⟩
theorem rd__law_answer {t l : Addr} {k : Int} {rs : List Addr} {rows : List (List Int)} {w : Nat} {xs : List V} (I : Isa K a) (hk : k = 0 ∨ k = 1) (B : Tb H t rs rows w) (hl : H l = some (.lst xs)) (hx : ∀ x ∈ xs, Wv x) (lx : xs.length ≤ 7) (q0 : good k xs rows w = false → ∀ H', Same H H' → Q .non H') (q1 : good k xs rows w = true → ∀ (r : Addr) (m : Int) (H' : Hp), Same H H' → H r = none → Best k (sms k xs rows w) m → H' r = some (.lst ((idx (sms k xs rows w) m).map V.int)) → Q (.ref r) H') :
    t__law_answer K a { nx := fun _ H' => Q .non H', rt := Q } (L2.start ["_law_table_here", "_law_weights_here", "_law_which", "e"] [.ref t, .ref l, .int k]) H := by
  unfold t__law_answer
  simp only [t__law_answer_0_eq,t__law_answer_1_eq,↓tVar_c0,↓tVar_c1,↓tVar_c2,↓tVar_c3,↓tVar_c4,↓tVar_c5,↓tVar_c6,↓tVar_c7,↓tVar_c8,↓tVar_c10,↓rI0_c,↓rIxL_c,↓ex_bl,↓ex_int,↓ex_ref,↓ex_l1i,↓ex_l1r,↓rNeDN,↓rIn,↓tComp_eq,↓rNeD,capS,↓tNoTest,↓tSl,↓tNoPart,↓tPart,↓rSlL,↓rAppend,Option.bind_some,Option.bind_none,Option.join_some,Option.map_some,List.getElem?_cons_zero,List.getElem?_cons_succ,↓tCallS,↓tTry,↓rCat,V.str.injEq,V.ty.injEq,↓tBM,↓tFor_eq,↓iRng1,↓iList,↓tSeq,↓tNext,↓tAsg,↓gName,↓tCB,↓tCons,↓tNil,tVar,↓tC,↓tOp,↓tTest,↓tB,↓tOr,↓tNot,↓tIfS,↓tRet,↓tDrop,↓tLst,↓tTup,↓tCall,rI0,↓rEq,rIxL,L2.start,truV_int,truV_bl,scal_int,scal_bl,List.map_cons,List.map_nil,List.length_cons,List.length_nil,List.replicate,List.cons_append,List.nil_append,List.append_nil,Option.some.injEq,exists_eq_left',exists_eq_left,exists_and_left,List.cons.injEq,V.int.injEq,V.ref.injEq,V.bl.injEq,and_true,true_and,List.set_cons_zero,List.set_cons_succ,Nat.reduceAdd,Nat.reduceSub,Int.reduceToNat,Int.reducePow,Int.reduceNeg,Int.reduceMul,Int.reduceAdd,Int.reduceSub,decide_eq_true_eq,Bool.not_eq_true',decide_eq_false_iff_not,exists_const,and_assoc,exists_eq,exists_eq',if_true,if_false,Bool.false_eq_true,Bool.true_eq_false,reduceCtorEq,not_true_eq_false,not_false_eq_true]
  refine ⟨fun σ H' => H' = H ∧ k = 1 ∧ σ = [some (.ref t), some (.ref l), some (.int k), none], ?_, ?_⟩
  · simp only [t__law_answer_0_eq,t__law_answer_1_eq,↓tVar_c0,↓tVar_c1,↓tVar_c2,↓tVar_c3,↓tVar_c4,↓tVar_c5,↓tVar_c6,↓tVar_c7,↓tVar_c8,↓tVar_c10,↓rI0_c,↓rIxL_c,↓ex_bl,↓ex_int,↓ex_ref,↓ex_l1i,↓ex_l1r,↓rNeDN,↓rIn,↓tComp_eq,↓rNeD,capS,↓tNoTest,↓tSl,↓tNoPart,↓tPart,↓rSlL,↓rAppend,Option.bind_some,Option.bind_none,Option.join_some,Option.map_some,List.getElem?_cons_zero,List.getElem?_cons_succ,↓tCallS,↓tTry,↓rCat,V.str.injEq,V.ty.injEq,↓tBM,↓tFor_eq,↓iRng1,↓iList,↓tSeq,↓tNext,↓tAsg,↓gName,↓tCB,↓tCons,↓tNil,tVar,↓tC,↓tOp,↓tTest,↓tB,↓tOr,↓tNot,↓tIfS,↓tRet,↓tDrop,↓tLst,↓tTup,↓tCall,rI0,↓rEq,rIxL,L2.start,truV_int,truV_bl,scal_int,scal_bl,List.map_cons,List.map_nil,List.length_cons,List.length_nil,List.replicate,List.cons_append,List.nil_append,List.append_nil,Option.some.injEq,exists_eq_left',exists_eq_left,exists_and_left,List.cons.injEq,V.int.injEq,V.ref.injEq,V.bl.injEq,and_true,true_and,List.set_cons_zero,List.set_cons_succ,Nat.reduceAdd,Nat.reduceSub,Int.reduceToNat,Int.reducePow,Int.reduceNeg,Int.reduceMul,Int.reduceAdd,Int.reduceSub,decide_eq_true_eq,Bool.not_eq_true',decide_eq_false_iff_not,exists_const,and_assoc,exists_eq,exists_eq',if_true,if_false,Bool.false_eq_true,Bool.true_eq_false,reduceCtorEq,not_true_eq_false,not_false_eq_true]
    refine ite2 (fun z => ?_) (fun z => hk.resolve_left z)
    subst z
    refine ⟨t, l, rs, rows, w, xs, rfl, B, hl, hx, lx, fun g H1 s1 => ⟨I.ec, I.sub, fun x nx => answer_exc I s1 nx (q0 g)⟩, fun g r m H1 s1 h1 h2 h3 => q1 g r m H1 s1 h1 h2 h3⟩
  rintro σ H1 ⟨rfl, rfl, rfl⟩
  simp only [t__law_answer_0_eq,t__law_answer_1_eq,↓tVar_c0,↓tVar_c1,↓tVar_c2,↓tVar_c3,↓tVar_c4,↓tVar_c5,↓tVar_c6,↓tVar_c7,↓tVar_c8,↓tVar_c10,↓rI0_c,↓rIxL_c,↓ex_bl,↓ex_int,↓ex_ref,↓ex_l1i,↓ex_l1r,↓rNeDN,↓rIn,↓tComp_eq,↓rNeD,capS,↓tNoTest,↓tSl,↓tNoPart,↓tPart,↓rSlL,↓rAppend,Option.bind_some,Option.bind_none,Option.join_some,Option.map_some,List.getElem?_cons_zero,List.getElem?_cons_succ,↓tCallS,↓tTry,↓rCat,V.str.injEq,V.ty.injEq,↓tBM,↓tFor_eq,↓iRng1,↓iList,↓tSeq,↓tNext,↓tAsg,↓gName,↓tCB,↓tCons,↓tNil,tVar,↓tC,↓tOp,↓tTest,↓tB,↓tOr,↓tNot,↓tIfS,↓tRet,↓tDrop,↓tLst,↓tTup,↓tCall,rI0,↓rEq,rIxL,L2.start,truV_int,truV_bl,scal_int,scal_bl,List.map_cons,List.map_nil,List.length_cons,List.length_nil,List.replicate,List.cons_append,List.nil_append,List.append_nil,Option.some.injEq,exists_eq_left',exists_eq_left,exists_and_left,List.cons.injEq,V.int.injEq,V.ref.injEq,V.bl.injEq,and_true,true_and,List.set_cons_zero,List.set_cons_succ,Nat.reduceAdd,Nat.reduceSub,Int.reduceToNat,Int.reducePow,Int.reduceNeg,Int.reduceMul,Int.reduceAdd,Int.reduceSub,decide_eq_true_eq,Bool.not_eq_true',decide_eq_false_iff_not,exists_const,and_assoc,exists_eq,exists_eq',if_true,if_false,Bool.false_eq_true,Bool.true_eq_false,reduceCtorEq,not_true_eq_false,not_false_eq_true]
  refine ⟨t, l, rs, rows, w, xs, rfl, B, hl, hx, lx, fun g H1 s1 => ⟨I.ec, I.sub, fun x nx => answer_exc I s1 nx (q0 g)⟩, fun g r m H1 s1 h1 h2 h3 => q1 g r m H1 s1 h1 h2 h3⟩
theorem sc__law_answer : FnScope ["_law_table_here", "_law_weights_here", "_law_which", "e"] ["_law_table_here", "_law_weights_here", "_law_which"] (defScope s__law_answer) := ⟨rfl, rfl, rfl, by decide +kernel, rfl, by decide +kernel, by decide +kernel⟩
theorem ok__law_answer (T : Txt K mg a) : FnOk P w K mg base CX0 6 a.f__law_answer a.d__law_answer ["_law_table_here", "_law_weights_here", "_law_which"] (spAnswer K) := by
  have G_best_columns := ok_best_columns (P := P) (w := w) (base := base) T
  have G_best_rows := ok_best_rows (P := P) (w := w) (base := base) T
  refine T.F__law_answer.ok sc__law_answer (fun vs H Q E h => ?_) (fun cdv A outer s H vs Q E hr h => ?_)
  · obtain ⟨t, l, k, rs, rows, w, xs, rfl, hk, B, hl, hx, lx, q0, q1⟩ := h
    rfl
  obtain ⟨t, l, k, rs, rows, w, xs, rfl, hk, B, hl, hx, lx, q0, q1⟩ := h
  exact ⟨t__law_answer K a, (pss_one (ps_try (i := 3) T.m_HideError T.x_HideError rfl sc__law_answer.nd rfl rfl rfl rfl rfl rfl (fun pins E' => (pss_cons (ps_cut (ps_if (pt_cmpR op_eq (pv 2) pe_int (nomark _)) (pss_one (ps_ret (pe_callS G_best_rows (hr.mono (by decide)) rfl T.m_best_rows T.F_best_rows.kp T.b_best_rows .nil passS (pa_cons (pv 0) (pa_cons (pv 1) pa_nil))))) pss_nil))
  (pss_one (ps_ret (pe_callS G_best_columns (hr.mono (by decide)) rfl T.m_best_columns T.F_best_columns.kp T.b_best_columns .nil passS (pa_cons (pv 0) (pa_cons (pv 1) pa_nil)))))))
  (fun ea => (pss_cons (ps_cut (ps_if (PW.pt (pw_or (pt_val (pe_callB call_isiT rfl T.z_isinstance PyProof.Rows.boot_isinstance (pa_cons (pv 3) (pa_cons (pe_tup (pa_cons (pe_glob rfl T.m_NoBoxes rfl) (pa_cons (pe_glob rfl T.m_NoOrder rfl) (pa_cons (pe_glob rfl T.m_NoTable rfl) pa_nil)))) pa_nil)))) (pw_or1 (pt_not (pt_val (pe_callB call_isinst rfl T.z_isinstance PyProof.Rows.boot_isinstance (pa_cons (pv 3) (pa_cons (pe_bltn rfl T.z_ValueError boot_ValueError rfl) pa_nil)))))))) (pss_one (ps_ret pe_str)) pss_nil))
  (pss_one (ps_ret (pe_ix ix_list (pe_lst (pa_cons pe_str (pa_cons pe_non pa_nil))) (pe_callTy call_int1 rfl T.z_int boot_int (pa_cons (pe_callB call_isinst rfl T.z_isinstance PyProof.Rows.boot_isinstance (pa_cons (pv 3) (pa_cons (pe_glob rfl T.m_NoWeights rfl) pa_nil))) pa_nil)) (fun _ _ => rfl)))))))),
    rd__law_answer T.I hk B hl hx lx q0 q1⟩
def t_law_0 (K : PySem.W.Frag) : TS :=
  (tIfS (tOr (tNot (tB (tCB (rIsi K) (tCons (tVar 10) (tCons (tC (.ty "list")) tNil))))) (tTest (tOp (rIn K false) (tC (.bl true)) (tComp (iList K (tVar 10)) (gName 0) tNoTest (tCB (rIsi K) (tCons (tVar 0) (tCons (tC (.ty "bool")) tNil))) [none])))) (tRet (tC (.bl false))) tNext)
theorem t_law_0_eq (K : PySem.W.Frag) (D : Ends) (σ : St) (H : Hp) : t_law_0 K D σ H = (tIfS (tOr (tNot (tB (tCB (rIsi K) (tCons (tVar 10) (tCons (tC (.ty "list")) tNil))))) (tTest (tOp (rIn K false) (tC (.bl true)) (tComp (iList K (tVar 10)) (gName 0) tNoTest (tCB (rIsi K) (tCons (tVar 0) (tCons (tC (.ty "bool")) tNil))) [none])))) (tRet (tC (.bl false))) tNext) D σ H := rfl
def t_law_1 (K : PySem.W.Frag) : TS :=
  (tIfS (tTest (tOp (fun x y H Q => y = .non ∧ Q (.bl (!decide (x = .non))) H) (tVar 10) (tC .non))) (tSeq (tCut (t_law_0 K))
  (tSeq (tDrop (tBM K "list" rAppend (tVar 10) (tCons (tC (.int 7)) tNil)))
  (tDrop (tBM K "list" rAppend (tVar 8) (tCons (tVar 10) tNil))))) tNext)
theorem t_law_1_eq (K : PySem.W.Frag) (D : Ends) (σ : St) (H : Hp) : t_law_1 K D σ H = (tIfS (tTest (tOp (fun x y H Q => y = .non ∧ Q (.bl (!decide (x = .non))) H) (tVar 10) (tC .non))) (tSeq (tCut (t_law_0 K))
  (tSeq (tDrop (tBM K "list" rAppend (tVar 10) (tCons (tC (.int 7)) tNil)))
  (tDrop (tBM K "list" rAppend (tVar 8) (tCons (tVar 10) tNil))))) tNext) D σ H := rfl
def t_law_2 (K : PySem.W.Frag) : TS :=
  (tIfS (tOr (tTest (tOp (rNeDN K) (tVar 10) (tVar 7))) (tTest (tOp (rNeD K) (tVar 6) (tLst (tCons (tVar 3) (tCons (tVar 5) tNil)))))) (tRet (tC (.bl false))) tNext)
theorem t_law_2_eq (K : PySem.W.Frag) (D : Ends) (σ : St) (H : Hp) : t_law_2 K D σ H = (tIfS (tOr (tTest (tOp (rNeDN K) (tVar 10) (tVar 7))) (tTest (tOp (rNeD K) (tVar 6) (tLst (tCons (tVar 3) (tCons (tVar 5) tNil)))))) (tRet (tC (.bl false))) tNext) D σ H := rfl
def t_law_3 (K : PySem.W.Frag) : TS :=
  (tSeq (tAsg (tCall (spAnswer K) [] E0 (tCons (tOp (rIxL K) (tVar 6) (tC (.int 0))) (tCons (tOp (rIxL K) (tVar 6) (tC (.int 1))) (tCons (tVar 4) tNil)))) (gName 10))
  (tSeq (tCut (t_law_2 K))
  (t_law_1 K)))
theorem t_law_3_eq (K : PySem.W.Frag) (D : Ends) (σ : St) (H : Hp) : t_law_3 K D σ H = (tSeq (tAsg (tCall (spAnswer K) [] E0 (tCons (tOp (rIxL K) (tVar 6) (tC (.int 0))) (tCons (tOp (rIxL K) (tVar 6) (tC (.int 1))) (tCons (tVar 4) tNil)))) (gName 10))
  (tSeq (tCut (t_law_2 K))
  (t_law_1 K))) D σ H := rfl
def t_law_4 (K : PySem.W.Frag) : TS :=
  (tIfS (tTest (tOp (rI0 fun i j => .bl (decide (j < i))) (tCB (fun xs H Q => ∃ p ys, xs = [.ref p] ∧ (SqL K H p ys ∨ SqT K H p ys) ∧ Q (.int ys.length) H) (tCons (tComp (iList K (tVar 8)) (gName 0) (tTest (tOp (rNeD K) (tVar 0) (tOp rCat (tVar 1) (tLst (tCons (tC (.int 7)) tNil))))) (tVar 0) [none, some 7]) tNil)) (tC (.int 0)))) (tRet (tC (.bl false))) tNext)
theorem t_law_4_eq (K : PySem.W.Frag) (D : Ends) (σ : St) (H : Hp) : t_law_4 K D σ H = (tIfS (tTest (tOp (rI0 fun i j => .bl (decide (j < i))) (tCB (fun xs H Q => ∃ p ys, xs = [.ref p] ∧ (SqL K H p ys ∨ SqT K H p ys) ∧ Q (.int ys.length) H) (tCons (tComp (iList K (tVar 8)) (gName 0) (tTest (tOp (rNeD K) (tVar 0) (tOp rCat (tVar 1) (tLst (tCons (tC (.int 7)) tNil))))) (tVar 0) [none, some 7]) tNil)) (tC (.int 0)))) (tRet (tC (.bl false))) tNext) D σ H := rfl
def t_law_5 (K : PySem.W.Frag) : TS :=
  (tSeq (tAsg (tCall (spSome K) [] E0 (tCons (tVar 2) (tCons (tOp (rIxL K) (tLst (tCons (tCB (fun xs H Q => ∃ p ys, xs = [.ref p] ∧ (SqL K H p ys ∨ SqT K H p ys) ∧ Q (.int ys.length) H) (tCons (tOp (rIxL K) (tVar 3) (tC (.int 0))) tNil)) (tCons (tCB (fun xs H Q => ∃ p ys, xs = [.ref p] ∧ (SqL K H p ys ∨ SqT K H p ys) ∧ Q (.int ys.length) H) (tCons (tVar 3) tNil)) tNil))) (tVar 4)) tNil))) (gName 5))
  (tSeq (tAsg (tLst (tCons (tCall (spCopy K) [] E0 (tCons (tVar 3) tNil)) (tCons (tCB (fun xs H Q => ∃ p ys, xs = [.ref p] ∧ (SqL K H p ys ∨ SqT K H p ys) ∧ ∀ l, H l = none → Q (.ref l) (upd H l (.lst ys))) (tCons (tVar 5) tNil)) tNil))) (gName 6))
  (tSeq (tAsg (tCall (spDue K) [] E0 (tCons (tVar 3) (tCons (tVar 5) (tCons (tVar 4) tNil)))) (gName 7))
  (tSeq (tAsg (tLst tNil) (gName 8))
  (tSeq (tFor (iRng1 (tCons (tC (.int 2)) tNil)) (gName 9)
  (t_law_3 K))
  (t_law_4 K))))))
theorem t_law_5_eq (K : PySem.W.Frag) (D : Ends) (σ : St) (H : Hp) : t_law_5 K D σ H = (tSeq (tAsg (tCall (spSome K) [] E0 (tCons (tVar 2) (tCons (tOp (rIxL K) (tLst (tCons (tCB (fun xs H Q => ∃ p ys, xs = [.ref p] ∧ (SqL K H p ys ∨ SqT K H p ys) ∧ Q (.int ys.length) H) (tCons (tOp (rIxL K) (tVar 3) (tC (.int 0))) tNil)) (tCons (tCB (fun xs H Q => ∃ p ys, xs = [.ref p] ∧ (SqL K H p ys ∨ SqT K H p ys) ∧ Q (.int ys.length) H) (tCons (tVar 3) tNil)) tNil))) (tVar 4)) tNil))) (gName 5))
  (tSeq (tAsg (tLst (tCons (tCall (spCopy K) [] E0 (tCons (tVar 3) tNil)) (tCons (tCB (fun xs H Q => ∃ p ys, xs = [.ref p] ∧ (SqL K H p ys ∨ SqT K H p ys) ∧ ∀ l, H l = none → Q (.ref l) (upd H l (.lst ys))) (tCons (tVar 5) tNil)) tNil))) (gName 6))
  (tSeq (tAsg (tCall (spDue K) [] E0 (tCons (tVar 3) (tCons (tVar 5) (tCons (tVar 4) tNil)))) (gName 7))
  (tSeq (tAsg (tLst tNil) (gName 8))
  (tSeq (tFor (iRng1 (tCons (tC (.int 2)) tNil)) (gName 9)
  (t_law_3 K))
  (t_law_4 K)))))) D σ H := rfl
def t_law_6 (K : PySem.W.Frag) : TS :=
  (tSeq (tAsg (tCall (spLeft K) [] E0 (tCons (tLst (tCons (tVar 1) tNil)) (tCons (tC (.int 0)) tNil))) (gName 2))
  (tSeq (tAsg (tCall (spTable K) [] E0 (tCons (tVar 2) tNil)) (gName 3))
  (tFor (iRng1 (tCons (tC (.int 2)) tNil)) (gName 4)
  (t_law_5 K))))
theorem t_law_6_eq (K : PySem.W.Frag) (D : Ends) (σ : St) (H : Hp) : t_law_6 K D σ H = (tSeq (tAsg (tCall (spLeft K) [] E0 (tCons (tLst (tCons (tVar 1) tNil)) (tCons (tC (.int 0)) tNil))) (gName 2))
  (tSeq (tAsg (tCall (spTable K) [] E0 (tCons (tVar 2) tNil)) (gName 3))
  (tFor (iRng1 (tCons (tC (.int 2)) tNil)) (gName 4)
  (t_law_5 K)))) D σ H := rfl
def t_law (K : PySem.W.Frag) : TS :=
  (tSeq (tFor (iList K (tOp rCat (tLst (tCons (tC (.int 0)) tNil)) (tSl (rSlL K) (tVar 0) tNoPart (tPart (tC (.int 63)))))) (gName 1)
  (t_law_6 K))
  (tRet (tC (.bl true))))
def trv : V → Tr
  | .int n => .int n
  | .bl b => .bl b
  | _ => .non
theorem shows_ints {ms : List Int} {n : Nat} {p : Addr} (h : H p = some (.lst (ms.map V.int))) : Shows K H (n + 1) (.lst (ms.map Tr.int)) (.ref p) := by
  refine .lst (SqL.of h) (by rw [List.length_map, List.length_map]) fun i x t e1 e2 => ?_
  obtain ⟨a, ha, rfl⟩ := map_at e1
  obtain ⟨b, hb, rfl⟩ := map_at e2
  rw [ha] at hb
  cases hb
  exact .int _
theorem shows_wv {xs : List V} {n : Nat} {p : Addr} (h : H p = some (.lst xs)) (hx : ∀ x ∈ xs, Wv x) : Shows K H (n + 1) (.lst (xs.map trv)) (.ref p) := by
  refine .lst (SqL.of h) (by rw [List.length_map]) fun i x t e1 e2 => ?_
  obtain ⟨b, hb, rfl⟩ := map_at e2
  rw [e1] at hb
  cases hb
  rcases hx x (mem_at e1) with ⟨n, rfl, _⟩ | rfl
  · exact .int _
  · exact .bl _
theorem shows_tab {t : Addr} {rs : List Addr} {rows : List (List Int)} {w n : Nat} (B : Tb H t rs rows w) : Shows K H (n + 1 + 1) (.lst (rows.map fun row => .lst (row.map Tr.int))) (.ref t) := by
  refine .lst (SqL.of B.ht) (by rw [List.length_map, List.length_map, B.len]) fun i x u e1 e2 => ?_
  obtain ⟨r, er, rfl⟩ := map_at e1
  obtain ⟨row, e, rfl⟩ := map_at e2
  exact shows_ints (B.hr i r row er e)
theorem shows_pair {s t : Tr} {n : Nat} {p x y : Addr} (h : H p = some (.lst [.ref x, .ref y])) (h1 : Shows K H n s (.ref x)) (h2 : Shows K H n t (.ref y)) : Shows K H (n + 1) (.lst [s, t]) (.ref p) := by
  refine .lst (SqL.of h) rfl fun i z w e1 e2 => ?_
  match i, e1, e2 with
  | 0, e1, e2 =>
    cases e1
    cases e2
    exact h1
  | 1, e1, e2 =>
    cases e1
    cases e2
    exact h2
theorem no_true (n : Nat) : inV (.bl true) ((List.replicate n false).map V.bl) = false := by
  unfold inV
  induction n with
  | zero => rfl
  | succ n ih => rw [List.replicate_succ, List.map_cons, List.any_cons, ih]; rfl
theorem all_flat (n : Nat) : ((List.replicate n false).map V.bl).all flatV = true := by
  induction n with
  | zero => rfl
  | succ n ih => rw [List.replicate_succ, List.map_cons, List.all_cons, ih]; rfl
theorem rep_snocF (n : Nat) : (List.replicate (n + 1) false).map V.bl = (List.replicate n false).map V.bl ++ [.bl false] := by
  rw [List.replicate_succ', List.map_append]
  rfl
structure DueAt (H : Hp) (k : Int) (xs : List V) (rows : List (List Int)) (w : Nat) (L : List Int) (dv : V) : Prop where
  bad : good k xs rows w = false → dv = .non
  ok : good k xs rows w = true → ∃ d, dv = .ref d ∧ H d = some (.lst (L.map V.int)) ∧ ∃ m, Best k (sms k xs rows w) m ∧ L = idx (sms k xs rows w) m
theorem law_handed {H2 : Hp} {t l t' l' hd e : Addr} {rs rs' : List Addr} {rows : List (List Int)} {w : Nat} {xs : List V} {R : Prop} (s : Same H H2) (B : Tb H t rs rows w) (B' : Tb H t' rs' rows w) (hl : H l = some (.lst xs)) (hl' : H l' = some (.lst xs)) (hh : H hd = some (.lst [.ref t', .ref l'])) (wx : ∀ x ∈ xs, Wv x) (ge : H2 e = none) (q : R) :
    ∃ n, n ≤ 60 ∧ ∃ x, (Shows K (L2.upd H2 e (.lst [V.ref t, V.ref l])) (n + 1) (.lst x) (.ref hd) ∧ Shows K (L2.upd H2 e (.lst [V.ref t, V.ref l])) (n + 1) (.lst x) (.ref e) ∨ Shows K (L2.upd H2 e (.lst [V.ref t, V.ref l])) (n + 1) (.tup x) (.ref hd) ∧ Shows K (L2.upd H2 e (.lst [V.ref t, V.ref l])) (n + 1) (.tup x) (.ref e)) ∧ R := by
  have s3 := s.add ge (o := .lst [V.ref t, V.ref l])
  have h3 : (L2.upd H2 e (.lst [V.ref t, V.ref l])) e = some (.lst [V.ref t, V.ref l]) := upd_same
  exact ⟨2, by decide, _, .inl ⟨shows_pair (s3 _ _ hh) (shows_tab (B'.same s3)) (shows_wv (s3 _ _ hl') wx), shows_pair h3 (shows_tab (B.same s3)) (shows_wv (s3 _ _ hl) wx)⟩, q⟩
theorem law_turns {p0 p t l t' l' hd tl : Addr} {cell k : Int} {rs rs' : List Addr} {rows : List (List Int)} {w : Nat} {xs : List V} {dv : V} {L : List Int} {w9 w10 : Option V} {D : Ends} (hk : k = 0 ∨ k = 1) (B : Tb H t rs rows w) (B' : Tb H t' rs' rows w) (hl : H l = some (.lst xs)) (hl' : H l' = some (.lst xs)) (hh : H hd = some (.lst [.ref t', .ref l']))
    (lx : xs.length ≤ 7) (wx : ∀ x ∈ xs, Wv x) (LL : L.length ≤ 6) (U : DueAt H k xs rows w L dv) (hL : good k xs rows w = true → ∀ m, Best k (sms k xs rows w) m → L = idx (sms k xs rows w) m) (ht : H tl = none)
    (hD : ∀ (u9 u10 : Option V) (H' : Hp), Same H H' → D.nx [some (.ref p0), some (.int cell), some (.ref p), some (.ref t), some (.int k), some (.ref l), some (.ref hd), some dv, some (.ref tl), u9, u10] H') :
    ForIt (Itr 0 2) (gName 9) (t_law_3 K) { nx := t_law_4 K D, rt := D.rt, bk := D.bk, ct := D.ct } [some (.ref p0), some (.int cell), some (.ref p), some (.ref t), some (.int k), some (.ref l), some (.ref hd), some dv, some (.ref tl), w9, w10] (L2.upd H tl (.lst [])) := by
  refine for_rangeF (fun i σ H' => Same H H' ∧ ∃ rl : List Addr, H' tl = some (.lst (rl.map V.ref)) ∧ rl.length ≤ i ∧ (∀ r ∈ rl, r ≠ tl ∧ H r = none ∧ good k xs rows w = true ∧ H' r = some (.lst ((L ++ [7]).map V.int))) ∧ ∃ u9 u10, σ = [some (.ref p0), some (.int cell), some (.ref p), some (.ref t), some (.int k), some (.ref l), some (.ref hd), some dv, some (.ref tl), u9, u10]) ⟨same_new ht _, [], upd_same, Nat.le_refl _, fun r h => absurd h List.not_mem_nil, _, _, rfl⟩ ?_ ?_
  · rintro i σ H1 hi ⟨s1, rl, htl, ll, hrl, u9, u10, rfl⟩
    simp only [t_law_0_eq,t_law_1_eq,t_law_2_eq,t_law_3_eq,t_law_4_eq,t_law_5_eq,t_law_6_eq,↓tVar_c0,↓tVar_c1,↓tVar_c2,↓tVar_c3,↓tVar_c4,↓tVar_c5,↓tVar_c6,↓tVar_c7,↓tVar_c8,↓tVar_c10,↓rI0_c,↓rIxL_c,↓ex_bl,↓ex_int,↓ex_ref,↓ex_l1i,↓ex_l1r,↓rNeDN,↓rIn,↓tComp_eq,↓rNeD,capS,↓tNoTest,↓tSl,↓tNoPart,↓tPart,↓rSlL,↓rAppend,Option.bind_some,Option.bind_none,Option.join_some,Option.map_some,List.getElem?_cons_zero,List.getElem?_cons_succ,↓rCat,V.str.injEq,V.ty.injEq,↓tBM,↓tFor_eq,↓iRng1,↓iList,↓tSeq,↓tNext,↓tAsg,↓gName,↓tCB,↓tCons,↓tNil,tVar,↓tC,↓tOp,↓tTest,↓tB,↓tOr,↓tNot,↓tIfS,↓tRet,↓tDrop,↓tLst,↓tCall,rI0,rIxL,L2.start,truV_int,truV_bl,scal_int,scal_bl,List.map_cons,List.map_nil,List.length_cons,List.length_nil,List.replicate,List.cons_append,List.nil_append,List.append_nil,Option.some.injEq,exists_eq_left',exists_eq_left,exists_and_left,List.cons.injEq,V.int.injEq,V.ref.injEq,V.bl.injEq,and_true,true_and,List.set_cons_zero,List.set_cons_succ,Nat.reduceAdd,Nat.reduceSub,Int.reduceToNat,Int.reducePow,Int.reduceNeg,Int.reduceMul,Int.reduceAdd,Int.reduceSub,decide_eq_true_eq,Bool.not_eq_true',decide_eq_false_iff_not,exists_const,and_assoc,exists_eq,exists_eq',if_true,if_false,Bool.false_eq_true,Bool.true_eq_false,reduceCtorEq,not_true_eq_false,not_false_eq_true]
    refine ⟨_, SqL.of (s1 _ _ hh), _, rfl, _, SqL.of (s1 _ _ hh), _, rfl, t', l', k, rs', rows, w, xs, rfl, hk, B'.same s1, s1 _ _ hl', wx, lx, fun g H2 s2 => ?_, fun g r m H2 s2 fr Bm hr => ?_⟩
    · have e := U.bad g
      subst e
      have s12 := s1.trans s2
      refine ⟨fun σ H' => Same H2 H' ∧ σ = [some (.ref p0), some (.int cell), some (.ref p), some (.ref t), some (.int k), some (.ref l), some (.ref hd), some .non, some (.ref tl), some (.int (0 + i)), some .non], ?_, ?_⟩
      · simp only [t_law_0_eq,t_law_1_eq,t_law_2_eq,t_law_3_eq,t_law_4_eq,t_law_5_eq,t_law_6_eq,↓tVar_c0,↓tVar_c1,↓tVar_c2,↓tVar_c3,↓tVar_c4,↓tVar_c5,↓tVar_c6,↓tVar_c7,↓tVar_c8,↓tVar_c10,↓rI0_c,↓rIxL_c,↓ex_bl,↓ex_int,↓ex_ref,↓ex_l1i,↓ex_l1r,↓rNeDN,↓rIn,↓tComp_eq,↓rNeD,capS,↓tNoTest,↓tSl,↓tNoPart,↓tPart,↓rSlL,↓rAppend,Option.bind_some,Option.bind_none,Option.join_some,Option.map_some,List.getElem?_cons_zero,List.getElem?_cons_succ,↓rCat,V.str.injEq,V.ty.injEq,↓tBM,↓tFor_eq,↓iRng1,↓iList,↓tSeq,↓tNext,↓tAsg,↓gName,↓tCB,↓tCons,↓tNil,tVar,↓tC,↓tOp,↓tTest,↓tB,↓tOr,↓tNot,↓tIfS,↓tRet,↓tDrop,↓tLst,↓tCall,rI0,rIxL,L2.start,truV_int,truV_bl,scal_int,scal_bl,List.map_cons,List.map_nil,List.length_cons,List.length_nil,List.replicate,List.cons_append,List.nil_append,List.append_nil,Option.some.injEq,exists_eq_left',exists_eq_left,exists_and_left,List.cons.injEq,V.int.injEq,V.ref.injEq,V.bl.injEq,and_true,true_and,List.set_cons_zero,List.set_cons_succ,Nat.reduceAdd,Nat.reduceSub,Int.reduceToNat,Int.reducePow,Int.reduceNeg,Int.reduceMul,Int.reduceAdd,Int.reduceSub,decide_eq_true_eq,Bool.not_eq_true',decide_eq_false_iff_not,exists_const,and_assoc,exists_eq,exists_eq',if_true,if_false,Bool.false_eq_true,Bool.true_eq_false,reduceCtorEq,not_true_eq_false,not_false_eq_true]
        refine .inl ⟨rfl, false, rfl, iteF ⟨by decide, fun e ge => law_handed s12 B B' hl hl' hh wx ge ((Same.refl _).add ge)⟩⟩
      rintro σ H3 ⟨s3, rfl⟩
      simp only [t_law_0_eq,t_law_1_eq,t_law_2_eq,t_law_3_eq,t_law_4_eq,t_law_5_eq,t_law_6_eq,↓tVar_c0,↓tVar_c1,↓tVar_c2,↓tVar_c3,↓tVar_c4,↓tVar_c5,↓tVar_c6,↓tVar_c7,↓tVar_c8,↓tVar_c10,↓rI0_c,↓rIxL_c,↓ex_bl,↓ex_int,↓ex_ref,↓ex_l1i,↓ex_l1r,↓rNeDN,↓rIn,↓tComp_eq,↓rNeD,capS,↓tNoTest,↓tSl,↓tNoPart,↓tPart,↓rSlL,↓rAppend,Option.bind_some,Option.bind_none,Option.join_some,Option.map_some,List.getElem?_cons_zero,List.getElem?_cons_succ,↓rCat,V.str.injEq,V.ty.injEq,↓tBM,↓tFor_eq,↓iRng1,↓iList,↓tSeq,↓tNext,↓tAsg,↓gName,↓tCB,↓tCons,↓tNil,tVar,↓tC,↓tOp,↓tTest,↓tB,↓tOr,↓tNot,↓tIfS,↓tRet,↓tDrop,↓tLst,↓tCall,rI0,rIxL,L2.start,truV_int,truV_bl,scal_int,scal_bl,List.map_cons,List.map_nil,List.length_cons,List.length_nil,List.replicate,List.cons_append,List.nil_append,List.append_nil,Option.some.injEq,exists_eq_left',exists_eq_left,exists_and_left,List.cons.injEq,V.int.injEq,V.ref.injEq,V.bl.injEq,and_true,true_and,List.set_cons_zero,List.set_cons_succ,Nat.reduceAdd,Nat.reduceSub,Int.reduceToNat,Int.reducePow,Int.reduceNeg,Int.reduceMul,Int.reduceAdd,Int.reduceSub,decide_eq_true_eq,Bool.not_eq_true',decide_eq_false_iff_not,exists_const,and_assoc,exists_eq,exists_eq',if_true,if_false,Bool.false_eq_true,Bool.true_eq_false,reduceCtorEq,not_true_eq_false,not_false_eq_true]
      refine ⟨s12.trans s3, rl, s3 _ _ (s2 _ _ htl), by omega, fun r h => ?_⟩
      obtain ⟨z1, z2, z3, z4⟩ := hrl r h
      exact ⟨z1, z2, z3, s3 _ _ (s2 _ _ z4)⟩
    · obtain ⟨d, ed, hd', _⟩ := U.ok g
      subst ed
      have s12 := s1.trans s2
      rw [← hL g m Bm] at hr
      refine ⟨fun σ H' => Same H2 H' ∧ σ = [some (.ref p0), some (.int cell), some (.ref p), some (.ref t), some (.int k), some (.ref l), some (.ref hd), some (.ref d), some (.ref tl), some (.int (0 + i)), some (.ref r)], ?_, ?_⟩
      · simp only [t_law_0_eq,t_law_1_eq,t_law_2_eq,t_law_3_eq,t_law_4_eq,t_law_5_eq,t_law_6_eq,↓tVar_c0,↓tVar_c1,↓tVar_c2,↓tVar_c3,↓tVar_c4,↓tVar_c5,↓tVar_c6,↓tVar_c7,↓tVar_c8,↓tVar_c10,↓rI0_c,↓rIxL_c,↓ex_bl,↓ex_int,↓ex_ref,↓ex_l1i,↓ex_l1r,↓rNeDN,↓rIn,↓tComp_eq,↓rNeD,capS,↓tNoTest,↓tSl,↓tNoPart,↓tPart,↓rSlL,↓rAppend,Option.bind_some,Option.bind_none,Option.join_some,Option.map_some,List.getElem?_cons_zero,List.getElem?_cons_succ,↓rCat,V.str.injEq,V.ty.injEq,↓tBM,↓tFor_eq,↓iRng1,↓iList,↓tSeq,↓tNext,↓tAsg,↓gName,↓tCB,↓tCons,↓tNil,tVar,↓tC,↓tOp,↓tTest,↓tB,↓tOr,↓tNot,↓tIfS,↓tRet,↓tDrop,↓tLst,↓tCall,rI0,rIxL,L2.start,truV_int,truV_bl,scal_int,scal_bl,List.map_cons,List.map_nil,List.length_cons,List.length_nil,List.replicate,List.cons_append,List.nil_append,List.append_nil,Option.some.injEq,exists_eq_left',exists_eq_left,exists_and_left,List.cons.injEq,V.int.injEq,V.ref.injEq,V.bl.injEq,and_true,true_and,List.set_cons_zero,List.set_cons_succ,Nat.reduceAdd,Nat.reduceSub,Int.reduceToNat,Int.reducePow,Int.reduceNeg,Int.reduceMul,Int.reduceAdd,Int.reduceSub,decide_eq_true_eq,Bool.not_eq_true',decide_eq_false_iff_not,exists_const,and_assoc,exists_eq,exists_eq',if_true,if_false,Bool.false_eq_true,Bool.true_eq_false,reduceCtorEq,not_true_eq_false,not_false_eq_true]
        refine .inr ⟨0, by decide, _, .inl ⟨shows_ints hr, shows_ints (s12 _ _ hd')⟩, by decide, fun e ge => law_handed s12 B B' hl hl' hh wx ge ((Same.refl _).add ge)⟩
      rintro σ H3 ⟨s3, rfl⟩
      have hr3 := s3 _ _ hr
      simp only [t_law_0_eq,t_law_1_eq,t_law_2_eq,t_law_3_eq,t_law_4_eq,t_law_5_eq,t_law_6_eq,↓tVar_c0,↓tVar_c1,↓tVar_c2,↓tVar_c3,↓tVar_c4,↓tVar_c5,↓tVar_c6,↓tVar_c7,↓tVar_c8,↓tVar_c10,↓rI0_c,↓rIxL_c,↓ex_bl,↓ex_int,↓ex_ref,↓ex_l1i,↓ex_l1r,↓rNeDN,↓rIn,↓tComp_eq,↓rNeD,capS,↓tNoTest,↓tSl,↓tNoPart,↓tPart,↓rSlL,↓rAppend,Option.bind_some,Option.bind_none,Option.join_some,Option.map_some,List.getElem?_cons_zero,List.getElem?_cons_succ,↓rCat,V.str.injEq,V.ty.injEq,↓tBM,↓tFor_eq,↓iRng1,↓iList,↓tSeq,↓tNext,↓tAsg,↓gName,↓tCB,↓tCons,↓tNil,tVar,↓tC,↓tOp,↓tTest,↓tB,↓tOr,↓tNot,↓tIfS,↓tRet,↓tDrop,↓tLst,↓tCall,rI0,rIxL,L2.start,truV_int,truV_bl,scal_int,scal_bl,List.map_cons,List.map_nil,List.length_cons,List.length_nil,List.replicate,List.cons_append,List.nil_append,List.append_nil,Option.some.injEq,exists_eq_left',exists_eq_left,exists_and_left,List.cons.injEq,V.int.injEq,V.ref.injEq,V.bl.injEq,and_true,true_and,List.set_cons_zero,List.set_cons_succ,Nat.reduceAdd,Nat.reduceSub,Int.reduceToNat,Int.reducePow,Int.reduceNeg,Int.reduceMul,Int.reduceAdd,Int.reduceSub,decide_eq_true_eq,Bool.not_eq_true',decide_eq_false_iff_not,exists_const,and_assoc,exists_eq,exists_eq',if_true,if_false,Bool.false_eq_true,Bool.true_eq_false,reduceCtorEq,not_true_eq_false,not_false_eq_true]
      refine ⟨fun σ H' => Same H3 H' ∧ σ = [some (.ref p0), some (.int cell), some (.ref p), some (.ref t), some (.int k), some (.ref l), some (.ref hd), some (.ref d), some (.ref tl), some (.int (0 + i)), some (.ref r)], ?_, ?_⟩
      · simp only [t_law_0_eq,t_law_1_eq,t_law_2_eq,t_law_3_eq,t_law_4_eq,t_law_5_eq,t_law_6_eq,↓tVar_c0,↓tVar_c1,↓tVar_c2,↓tVar_c3,↓tVar_c4,↓tVar_c5,↓tVar_c6,↓tVar_c7,↓tVar_c8,↓tVar_c10,↓rI0_c,↓rIxL_c,↓ex_bl,↓ex_int,↓ex_ref,↓ex_l1i,↓ex_l1r,↓rNeDN,↓rIn,↓tComp_eq,↓rNeD,capS,↓tNoTest,↓tSl,↓tNoPart,↓tPart,↓rSlL,↓rAppend,Option.bind_some,Option.bind_none,Option.join_some,Option.map_some,List.getElem?_cons_zero,List.getElem?_cons_succ,↓rCat,V.str.injEq,V.ty.injEq,↓tBM,↓tFor_eq,↓iRng1,↓iList,↓tSeq,↓tNext,↓tAsg,↓gName,↓tCB,↓tCons,↓tNil,tVar,↓tC,↓tOp,↓tTest,↓tB,↓tOr,↓tNot,↓tIfS,↓tRet,↓tDrop,↓tLst,↓tCall,rI0,rIxL,L2.start,truV_int,truV_bl,scal_int,scal_bl,List.map_cons,List.map_nil,List.length_cons,List.length_nil,List.replicate,List.cons_append,List.nil_append,List.append_nil,Option.some.injEq,exists_eq_left',exists_eq_left,exists_and_left,List.cons.injEq,V.int.injEq,V.ref.injEq,V.bl.injEq,and_true,true_and,List.set_cons_zero,List.set_cons_succ,Nat.reduceAdd,Nat.reduceSub,Int.reduceToNat,Int.reducePow,Int.reduceNeg,Int.reduceMul,Int.reduceAdd,Int.reduceSub,decide_eq_true_eq,Bool.not_eq_true',decide_eq_false_iff_not,exists_const,and_assoc,exists_eq,exists_eq',if_true,if_false,Bool.false_eq_true,Bool.true_eq_false,reduceCtorEq,not_true_eq_false,not_false_eq_true]
        refine isi_lst_lst hr3 ⟨true, rfl, ?_⟩
        simp only [t_law_0_eq,t_law_1_eq,t_law_2_eq,t_law_3_eq,t_law_4_eq,t_law_5_eq,t_law_6_eq,↓tVar_c0,↓tVar_c1,↓tVar_c2,↓tVar_c3,↓tVar_c4,↓tVar_c5,↓tVar_c6,↓tVar_c7,↓tVar_c8,↓tVar_c10,↓rI0_c,↓rIxL_c,↓ex_bl,↓ex_int,↓ex_ref,↓ex_l1i,↓ex_l1r,↓rNeDN,↓rIn,↓tComp_eq,↓rNeD,capS,↓tNoTest,↓tSl,↓tNoPart,↓tPart,↓rSlL,↓rAppend,Option.bind_some,Option.bind_none,Option.join_some,Option.map_some,List.getElem?_cons_zero,List.getElem?_cons_succ,↓rCat,V.str.injEq,V.ty.injEq,↓tBM,↓tFor_eq,↓iRng1,↓iList,↓tSeq,↓tNext,↓tAsg,↓gName,↓tCB,↓tCons,↓tNil,tVar,↓tC,↓tOp,↓tTest,↓tB,↓tOr,↓tNot,↓tIfS,↓tRet,↓tDrop,↓tLst,↓tCall,rI0,rIxL,L2.start,truV_int,truV_bl,scal_int,scal_bl,List.map_cons,List.map_nil,List.length_cons,List.length_nil,List.replicate,List.cons_append,List.nil_append,List.append_nil,Option.some.injEq,exists_eq_left',exists_eq_left,exists_and_left,List.cons.injEq,V.int.injEq,V.ref.injEq,V.bl.injEq,and_true,true_and,List.set_cons_zero,List.set_cons_succ,Nat.reduceAdd,Nat.reduceSub,Int.reduceToNat,Int.reducePow,Int.reduceNeg,Int.reduceMul,Int.reduceAdd,Int.reduceSub,decide_eq_true_eq,Bool.not_eq_true',decide_eq_false_iff_not,exists_const,and_assoc,exists_eq,exists_eq',if_true,if_false,Bool.false_eq_true,Bool.true_eq_false,reduceCtorEq,not_true_eq_false,not_false_eq_true]
        refine ⟨⟨_, SqL.of hr3⟩, fun F hF => ?_⟩
        refine comp_listF (K := K) (xs := L.map V.int) (fun j ys σ H' => Same H3 H' ∧ ys = (List.replicate j false).map V.bl ∧ ∃ x, σ = [x]) ⟨same_new hF _, rfl, _, rfl⟩ ?_ ?_ ?_
        · rintro j ys σ H' _ ⟨s, _⟩
          exact SqL.of (s _ _ hr3)
        · rintro j x ys σ H' hj hF' ⟨s, rfl, y, rfl⟩
          have lj := (List.getElem?_eq_some_iff.mp hj).1
          rw [List.length_map] at lj
          obtain ⟨n, en, rfl⟩ := map_at hj
          simp only [t_law_0_eq,t_law_1_eq,t_law_2_eq,t_law_3_eq,t_law_4_eq,t_law_5_eq,t_law_6_eq,↓tVar_c0,↓tVar_c1,↓tVar_c2,↓tVar_c3,↓tVar_c4,↓tVar_c5,↓tVar_c6,↓tVar_c7,↓tVar_c8,↓tVar_c10,↓rI0_c,↓rIxL_c,↓ex_bl,↓ex_int,↓ex_ref,↓ex_l1i,↓ex_l1r,↓rNeDN,↓rIn,↓tComp_eq,↓rNeD,capS,↓tNoTest,↓tSl,↓tNoPart,↓tPart,↓rSlL,↓rAppend,Option.bind_some,Option.bind_none,Option.join_some,Option.map_some,List.getElem?_cons_zero,List.getElem?_cons_succ,↓rCat,V.str.injEq,V.ty.injEq,↓tBM,↓tFor_eq,↓iRng1,↓iList,↓tSeq,↓tNext,↓tAsg,↓gName,↓tCB,↓tCons,↓tNil,tVar,↓tC,↓tOp,↓tTest,↓tB,↓tOr,↓tNot,↓tIfS,↓tRet,↓tDrop,↓tLst,↓tCall,rI0,rIxL,L2.start,truV_int,truV_bl,scal_int,scal_bl,List.map_cons,List.map_nil,List.length_cons,List.length_nil,List.replicate,List.cons_append,List.nil_append,List.append_nil,Option.some.injEq,exists_eq_left',exists_eq_left,exists_and_left,List.cons.injEq,V.int.injEq,V.ref.injEq,V.bl.injEq,and_true,true_and,List.set_cons_zero,List.set_cons_succ,Nat.reduceAdd,Nat.reduceSub,Int.reduceToNat,Int.reducePow,Int.reduceNeg,Int.reduceMul,Int.reduceAdd,Int.reduceSub,decide_eq_true_eq,Bool.not_eq_true',decide_eq_false_iff_not,exists_const,and_assoc,exists_eq,exists_eq',if_true,if_false,Bool.false_eq_true,Bool.true_eq_false,reduceCtorEq,not_true_eq_false,not_false_eq_true]
          exact isi_int_bool ⟨_, hF', by simp [sizeLine]; omega, _, upd_same, s.put hF, (rep_snocF j).symm⟩
        · rintro ys σ H' hF' ⟨s, rfl, y, rfl⟩
          refine ⟨F, rfl, _, .inl (SqL.of hF'), rfl, all_flat _, ?_⟩
          rw [no_true]
          exact iteF s
      rintro σ H4 ⟨s4, rfl⟩
      have hr4 := s4 _ _ hr3
      have htl4 := s4 _ _ (s3 _ _ (s2 _ _ htl))
      have nr : r ≠ tl := (ne_of_none htl fr).symm
      simp only [t_law_0_eq,t_law_1_eq,t_law_2_eq,t_law_3_eq,t_law_4_eq,t_law_5_eq,t_law_6_eq,↓tVar_c0,↓tVar_c1,↓tVar_c2,↓tVar_c3,↓tVar_c4,↓tVar_c5,↓tVar_c6,↓tVar_c7,↓tVar_c8,↓tVar_c10,↓rI0_c,↓rIxL_c,↓ex_bl,↓ex_int,↓ex_ref,↓ex_l1i,↓ex_l1r,↓rNeDN,↓rIn,↓tComp_eq,↓rNeD,capS,↓tNoTest,↓tSl,↓tNoPart,↓tPart,↓rSlL,↓rAppend,Option.bind_some,Option.bind_none,Option.join_some,Option.map_some,List.getElem?_cons_zero,List.getElem?_cons_succ,↓rCat,V.str.injEq,V.ty.injEq,↓tBM,↓tFor_eq,↓iRng1,↓iList,↓tSeq,↓tNext,↓tAsg,↓gName,↓tCB,↓tCons,↓tNil,tVar,↓tC,↓tOp,↓tTest,↓tB,↓tOr,↓tNot,↓tIfS,↓tRet,↓tDrop,↓tLst,↓tCall,rI0,rIxL,L2.start,truV_int,truV_bl,scal_int,scal_bl,List.map_cons,List.map_nil,List.length_cons,List.length_nil,List.replicate,List.cons_append,List.nil_append,List.append_nil,Option.some.injEq,exists_eq_left',exists_eq_left,exists_and_left,List.cons.injEq,V.int.injEq,V.ref.injEq,V.bl.injEq,and_true,true_and,List.set_cons_zero,List.set_cons_succ,Nat.reduceAdd,Nat.reduceSub,Int.reduceToNat,Int.reducePow,Int.reduceNeg,Int.reduceMul,Int.reduceAdd,Int.reduceSub,decide_eq_true_eq,Bool.not_eq_true',decide_eq_false_iff_not,exists_const,and_assoc,exists_eq,exists_eq',if_true,if_false,Bool.false_eq_true,Bool.true_eq_false,reduceCtorEq,not_true_eq_false,not_false_eq_true]
      refine ⟨.inl ⟨rfl, _, SqL.of hr4⟩, _, hr4, by rw [List.length_map]; simp only [sizeLine]; omega, .inl ⟨rfl, _, SqL.of (by rw [upd_ne nr.symm]; exact htl4)⟩, _, by rw [upd_ne nr.symm]; exact htl4, by rw [List.length_map]; simp only [sizeLine]; omega, (((s12.trans s3).trans s4).put (s1.free fr)).put ht, rl ++ [r], by rw [upd_same, List.map_append]; rfl, by rw [List.length_append, List.length_singleton]; omega, fun r1 h => ?_⟩
      rcases List.mem_append.mp h with h | h
      · obtain ⟨z1, z2, z3, z4⟩ := hrl r1 h
        refine ⟨z1, z2, z3, ?_⟩
        rw [upd_ne z1, upd_ne (ne_of_none z4 fr)]
        exact s4 _ _ (s3 _ _ (s2 _ _ z4))
      · rw [List.mem_singleton.mp h]
        refine ⟨nr, s1.free fr, g, ?_⟩
        rw [upd_ne nr, upd_same, List.map_append]
        rfl
  · rintro σ H1 ⟨s1, rl, htl, ll, hrl, u9, u10, rfl⟩
    simp only [t_law_0_eq,t_law_1_eq,t_law_2_eq,t_law_3_eq,t_law_4_eq,t_law_5_eq,t_law_6_eq,↓tVar_c0,↓tVar_c1,↓tVar_c2,↓tVar_c3,↓tVar_c4,↓tVar_c5,↓tVar_c6,↓tVar_c7,↓tVar_c8,↓tVar_c10,↓rI0_c,↓rIxL_c,↓ex_bl,↓ex_int,↓ex_ref,↓ex_l1i,↓ex_l1r,↓rNeDN,↓rIn,↓tComp_eq,↓rNeD,capS,↓tNoTest,↓tSl,↓tNoPart,↓tPart,↓rSlL,↓rAppend,Option.bind_some,Option.bind_none,Option.join_some,Option.map_some,List.getElem?_cons_zero,List.getElem?_cons_succ,↓rCat,V.str.injEq,V.ty.injEq,↓tBM,↓tFor_eq,↓iRng1,↓iList,↓tSeq,↓tNext,↓tAsg,↓gName,↓tCB,↓tCons,↓tNil,tVar,↓tC,↓tOp,↓tTest,↓tB,↓tOr,↓tNot,↓tIfS,↓tRet,↓tDrop,↓tLst,↓tCall,rI0,rIxL,L2.start,truV_int,truV_bl,scal_int,scal_bl,List.map_cons,List.map_nil,List.length_cons,List.length_nil,List.replicate,List.cons_append,List.nil_append,List.append_nil,Option.some.injEq,exists_eq_left',exists_eq_left,exists_and_left,List.cons.injEq,V.int.injEq,V.ref.injEq,V.bl.injEq,and_true,true_and,List.set_cons_zero,List.set_cons_succ,Nat.reduceAdd,Nat.reduceSub,Int.reduceToNat,Int.reducePow,Int.reduceNeg,Int.reduceMul,Int.reduceAdd,Int.reduceSub,decide_eq_true_eq,Bool.not_eq_true',decide_eq_false_iff_not,exists_const,and_assoc,exists_eq,exists_eq',if_true,if_false,Bool.false_eq_true,Bool.true_eq_false,reduceCtorEq,not_true_eq_false,not_false_eq_true]
    refine ⟨⟨_, SqL.of htl⟩, fun F hF => ?_⟩
    refine comp_listF (K := K) (xs := rl.map V.ref) (fun j ys σ H' => Same H1 H' ∧ ys = [] ∧ ∃ x, σ = [x, some dv]) ⟨same_new hF _, rfl, _, rfl⟩ ?_ ?_ ?_
    · rintro j ys σ H' _ ⟨s, _⟩
      exact SqL.of (s _ _ htl)
    · rintro j x ys σ H' hj hF' ⟨s, rfl, y, rfl⟩
      obtain ⟨r, er, rfl⟩ := map_at hj
      obtain ⟨z1, z2, z3, z4⟩ := hrl r (mem_at er)
      obtain ⟨d, ed, hd', _⟩ := U.ok z3
      subst ed
      simp only [t_law_0_eq,t_law_1_eq,t_law_2_eq,t_law_3_eq,t_law_4_eq,t_law_5_eq,t_law_6_eq,↓tVar_c0,↓tVar_c1,↓tVar_c2,↓tVar_c3,↓tVar_c4,↓tVar_c5,↓tVar_c6,↓tVar_c7,↓tVar_c8,↓tVar_c10,↓rI0_c,↓rIxL_c,↓ex_bl,↓ex_int,↓ex_ref,↓ex_l1i,↓ex_l1r,↓rNeDN,↓rIn,↓tComp_eq,↓rNeD,capS,↓tNoTest,↓tSl,↓tNoPart,↓tPart,↓rSlL,↓rAppend,Option.bind_some,Option.bind_none,Option.join_some,Option.map_some,List.getElem?_cons_zero,List.getElem?_cons_succ,↓rCat,V.str.injEq,V.ty.injEq,↓tBM,↓tFor_eq,↓iRng1,↓iList,↓tSeq,↓tNext,↓tAsg,↓gName,↓tCB,↓tCons,↓tNil,tVar,↓tC,↓tOp,↓tTest,↓tB,↓tOr,↓tNot,↓tIfS,↓tRet,↓tDrop,↓tLst,↓tCall,rI0,rIxL,L2.start,truV_int,truV_bl,scal_int,scal_bl,List.map_cons,List.map_nil,List.length_cons,List.length_nil,List.replicate,List.cons_append,List.nil_append,List.append_nil,Option.some.injEq,exists_eq_left',exists_eq_left,exists_and_left,List.cons.injEq,V.int.injEq,V.ref.injEq,V.bl.injEq,and_true,true_and,List.set_cons_zero,List.set_cons_succ,Nat.reduceAdd,Nat.reduceSub,Int.reduceToNat,Int.reducePow,Int.reduceNeg,Int.reduceMul,Int.reduceAdd,Int.reduceSub,decide_eq_true_eq,Bool.not_eq_true',decide_eq_false_iff_not,exists_const,and_assoc,exists_eq,exists_eq',if_true,if_false,Bool.false_eq_true,Bool.true_eq_false,reduceCtorEq,not_true_eq_false,not_false_eq_true]
      refine ⟨by decide, fun e1 g1 => ⟨_, same_new g1 _ _ _ (s _ _ (s1 _ _ hd')), _, upd_same, by rw [List.length_map, List.length_singleton]; simp only [sizeLine]; omega, fun e2 g2 => ?_⟩⟩
      have sa := (Same.refl H').add g1 (o := .lst [V.int 7])
      have sb := sa.add g2 (o := .lst (L.map V.int ++ [V.int 7]))
      have hb : (L2.upd (L2.upd H' e1 (.lst [V.int 7])) e2 (.lst (L.map V.int ++ [V.int 7]))) e2 = some (.lst ((L ++ [7]).map V.int)) := by
        rw [upd_same, List.map_append]
        rfl
      exact ⟨0, by decide, _, .inl ⟨shows_ints (sb _ _ (s _ _ z4)), shows_ints hb⟩, _, sb _ _ hF', s.trans sb, rfl⟩
    · rintro ys σ H' hF' ⟨s, rfl, y, rfl⟩
      refine ⟨F, rfl, _, .inl (SqL.of hF'), ?_⟩
      rw [if_neg (by decide)]
      exact hD _ _ H' (s1.trans s)
theorem law_which {p0 p t : Addr} {cell k c : Int} {rs : List Addr} {rows : List (List Int)} {w : Nat} {w5 w6 w7 w8 w9 w10 : Option V} {D : Ends} (hk : k = 0 ∨ k = 1) (P : Drw H p c) (c1 : c < 500) (B : Tb (Off p p H) t rs rows w)
    (hD : ∀ (c' : Int) (u5 u6 u7 u8 u9 u10 : Option V) (H' : Hp), Same (Off p p H) (Off p p H') → Drw H' p c' → c' ≤ c + 8 → D.nx [some (.ref p0), some (.int cell), some (.ref p), some (.ref t), some (.int k), u5, u6, u7, u8, u9, u10] H') :
    t_law_5 K D [some (.ref p0), some (.int cell), some (.ref p), some (.ref t), some (.int k), w5, w6, w7, w8, w9, w10] H := by
  have B0 := B.same (off_le p p H)
  obtain ⟨r0, row0, a0, h0, w0⟩ := B0.first
  have l6 := B.l6
  have l1 := B.l1
  have w6 := B.w6
  have w1 := B.w1
  have len := B.len
  simp only [t_law_0_eq,t_law_1_eq,t_law_2_eq,t_law_3_eq,t_law_4_eq,t_law_5_eq,t_law_6_eq,↓tVar_c0,↓tVar_c1,↓tVar_c2,↓tVar_c3,↓tVar_c4,↓tVar_c5,↓tVar_c6,↓tVar_c7,↓tVar_c8,↓tVar_c10,↓rI0_c,↓rIxL_c,↓ex_bl,↓ex_int,↓ex_ref,↓ex_l1i,↓ex_l1r,↓rNeDN,↓rIn,↓tComp_eq,↓rNeD,capS,↓tNoTest,↓tSl,↓tNoPart,↓tPart,↓rSlL,↓rAppend,Option.bind_some,Option.bind_none,Option.join_some,Option.map_some,List.getElem?_cons_zero,List.getElem?_cons_succ,↓rCat,V.str.injEq,V.ty.injEq,↓tBM,↓tFor_eq,↓iRng1,↓iList,↓tSeq,↓tNext,↓tAsg,↓gName,↓tCB,↓tCons,↓tNil,tVar,↓tC,↓tOp,↓tTest,↓tB,↓tOr,↓tNot,↓tIfS,↓tRet,↓tDrop,↓tLst,↓tCall,rI0,rIxL,L2.start,truV_int,truV_bl,scal_int,scal_bl,List.map_cons,List.map_nil,List.length_cons,List.length_nil,List.replicate,List.cons_append,List.nil_append,List.append_nil,Option.some.injEq,exists_eq_left',exists_eq_left,exists_and_left,List.cons.injEq,V.int.injEq,V.ref.injEq,V.bl.injEq,and_true,true_and,List.set_cons_zero,List.set_cons_succ,Nat.reduceAdd,Nat.reduceSub,Int.reduceToNat,Int.reducePow,Int.reduceNeg,Int.reduceMul,Int.reduceAdd,Int.reduceSub,decide_eq_true_eq,Bool.not_eq_true',decide_eq_false_iff_not,exists_const,and_assoc,exists_eq,exists_eq',if_true,if_false,Bool.false_eq_true,Bool.true_eq_false,reduceCtorEq,not_true_eq_false,not_false_eq_true]
  refine ⟨_, SqL.of B0.ht, _, a0, _, rfl, _, .inl (SqL.of h0), _, .inl (SqL.of B0.ht), by decide, fun e1 g1 => ?_⟩
  rw [List.length_map, List.length_map, w0, len]
  have sa := same_new g1 (.lst [V.int w, V.int rows.length])
  have ha : (L2.upd H e1 (.lst [V.int w, V.int rows.length])) e1 = some (.lst [V.int w, V.int rows.length]) := upd_same
  generalize L2.upd H e1 (.lst [V.int w, V.int rows.length]) = Ha at sa ha ⊢
  obtain ⟨m, hm, m1, m6⟩ : ∃ m : Int, atI [V.int w, V.int rows.length] k = some (.int m) ∧ 1 ≤ m ∧ m ≤ 6 := by
    rcases hk with rfl | rfl
    · exact ⟨_, rfl, by omega, by omega⟩
    · exact ⟨_, rfl, by omega, by omega⟩
  refine ⟨_, SqL.of ha, _, hm, p, c, m, rfl, P.same sa, by omega, m1, m6, fun l xs c' H1 s1 P1 hc' hl lx wx => ?_⟩
  have so1 := (off_same p p sa).trans s1
  have B1 := (B.same so1).same (off_le p p H1)
  simp only [t_law_0_eq,t_law_1_eq,t_law_2_eq,t_law_3_eq,t_law_4_eq,t_law_5_eq,t_law_6_eq,↓tVar_c0,↓tVar_c1,↓tVar_c2,↓tVar_c3,↓tVar_c4,↓tVar_c5,↓tVar_c6,↓tVar_c7,↓tVar_c8,↓tVar_c10,↓rI0_c,↓rIxL_c,↓ex_bl,↓ex_int,↓ex_ref,↓ex_l1i,↓ex_l1r,↓rNeDN,↓rIn,↓tComp_eq,↓rNeD,capS,↓tNoTest,↓tSl,↓tNoPart,↓tPart,↓rSlL,↓rAppend,Option.bind_some,Option.bind_none,Option.join_some,Option.map_some,List.getElem?_cons_zero,List.getElem?_cons_succ,↓rCat,V.str.injEq,V.ty.injEq,↓tBM,↓tFor_eq,↓iRng1,↓iList,↓tSeq,↓tNext,↓tAsg,↓gName,↓tCB,↓tCons,↓tNil,tVar,↓tC,↓tOp,↓tTest,↓tB,↓tOr,↓tNot,↓tIfS,↓tRet,↓tDrop,↓tLst,↓tCall,rI0,rIxL,L2.start,truV_int,truV_bl,scal_int,scal_bl,List.map_cons,List.map_nil,List.length_cons,List.length_nil,List.replicate,List.cons_append,List.nil_append,List.append_nil,Option.some.injEq,exists_eq_left',exists_eq_left,exists_and_left,List.cons.injEq,V.int.injEq,V.ref.injEq,V.bl.injEq,and_true,true_and,List.set_cons_zero,List.set_cons_succ,Nat.reduceAdd,Nat.reduceSub,Int.reduceToNat,Int.reducePow,Int.reduceNeg,Int.reduceMul,Int.reduceAdd,Int.reduceSub,decide_eq_true_eq,Bool.not_eq_true',decide_eq_false_iff_not,exists_const,and_assoc,exists_eq,exists_eq',if_true,if_false,Bool.false_eq_true,Bool.true_eq_false,reduceCtorEq,not_true_eq_false,not_false_eq_true]
  refine ⟨t, rs, rows, w, rfl, B1, fun t' rs' H2 s2 Bt => ?_⟩
  have hl1 := off_le _ _ _ _ _ hl
  simp only [t_law_0_eq,t_law_1_eq,t_law_2_eq,t_law_3_eq,t_law_4_eq,t_law_5_eq,t_law_6_eq,↓tVar_c0,↓tVar_c1,↓tVar_c2,↓tVar_c3,↓tVar_c4,↓tVar_c5,↓tVar_c6,↓tVar_c7,↓tVar_c8,↓tVar_c10,↓rI0_c,↓rIxL_c,↓ex_bl,↓ex_int,↓ex_ref,↓ex_l1i,↓ex_l1r,↓rNeDN,↓rIn,↓tComp_eq,↓rNeD,capS,↓tNoTest,↓tSl,↓tNoPart,↓tPart,↓rSlL,↓rAppend,Option.bind_some,Option.bind_none,Option.join_some,Option.map_some,List.getElem?_cons_zero,List.getElem?_cons_succ,↓rCat,V.str.injEq,V.ty.injEq,↓tBM,↓tFor_eq,↓iRng1,↓iList,↓tSeq,↓tNext,↓tAsg,↓gName,↓tCB,↓tCons,↓tNil,tVar,↓tC,↓tOp,↓tTest,↓tB,↓tOr,↓tNot,↓tIfS,↓tRet,↓tDrop,↓tLst,↓tCall,rI0,rIxL,L2.start,truV_int,truV_bl,scal_int,scal_bl,List.map_cons,List.map_nil,List.length_cons,List.length_nil,List.replicate,List.cons_append,List.nil_append,List.append_nil,Option.some.injEq,exists_eq_left',exists_eq_left,exists_and_left,List.cons.injEq,V.int.injEq,V.ref.injEq,V.bl.injEq,and_true,true_and,List.set_cons_zero,List.set_cons_succ,Nat.reduceAdd,Nat.reduceSub,Int.reduceToNat,Int.reducePow,Int.reduceNeg,Int.reduceMul,Int.reduceAdd,Int.reduceSub,decide_eq_true_eq,Bool.not_eq_true',decide_eq_false_iff_not,exists_const,and_assoc,exists_eq,exists_eq',if_true,if_false,Bool.false_eq_true,Bool.true_eq_false,reduceCtorEq,not_true_eq_false,not_false_eq_true]
  refine ⟨_, .inl (SqL.of (s2 _ _ hl1)), fun l' g3 => ⟨by decide, fun hd g4 => ?_⟩⟩
  have sb := s2.add g3 (o := .lst xs)
  have hb : (L2.upd H2 l' (.lst xs)) l' = some (.lst xs) := upd_same
  have Bt3 := Bt.same (same_new g3 (.lst xs))
  generalize L2.upd H2 l' (.lst xs) = H3 at sb hb Bt3 g4 ⊢
  have sc := sb.add g4 (o := .lst [V.ref t', V.ref l'])
  have hc := same_new g4 (.lst [V.ref t', V.ref l']) _ _ hb
  have hh : (L2.upd H3 hd (.lst [V.ref t', V.ref l'])) hd = some (.lst [V.ref t', V.ref l']) := upd_same
  have Bt4 := Bt3.same (same_new g4 (.lst [V.ref t', V.ref l']))
  generalize L2.upd H3 hd (.lst [V.ref t', V.ref l']) = H4 at sc hc hh Bt4 ⊢
  have B4 := B1.same sc
  have P4 := P1.same sc
  have so4 := so1.trans (off_same p p sc)
  have hl4 := sc _ _ hl1
  refine ⟨t, l, k, rs, rows, w, xs, rfl, hk, B4, hl4, wx, lx, fun g H5 s5 => ⟨by decide, fun tl g5 => ⟨by decide, by decide, ?_⟩⟩, fun g r m H5 s5 fr Bm hr => ⟨by decide, fun tl g5 => ⟨by decide, by decide, ?_⟩⟩⟩
  · exact law_turns (L := []) hk (B4.same s5) (Bt4.same s5) (s5 _ _ hl4) (s5 _ _ hc) (s5 _ _ hh) lx wx (by decide) ⟨fun _ => rfl, fun z => absurd (g.symm.trans z) Bool.false_ne_true⟩ (fun z => absurd (g.symm.trans z) Bool.false_ne_true) g5 fun u9 u10 H' s' => hD c' _ _ _ _ _ _ H' (so4.trans (off_same p p (s5.trans s'))) ((P4.same s5).same s') hc'
  · have LL : (idx (sms k xs rows w) m).length ≤ 6 := by
      refine Nat.le_trans (idxN_len _ _ _) ?_
      unfold sms rsums csums
      split
      · rw [List.length_map]
        exact l6
      · rw [List.length_map, List.length_range]
        exact w6
    exact law_turns (L := idx (sms k xs rows w) m) hk (B4.same s5) (Bt4.same s5) (s5 _ _ hl4) (s5 _ _ hc) (s5 _ _ hh) lx wx LL ⟨fun z => absurd (z.symm.trans g) Bool.false_ne_true, fun _ => ⟨r, rfl, hr, m, Bm, rfl⟩⟩ (fun _ m' Bm' => by rw [Bm.one Bm']) g5 fun u9 u10 H' s' => hD c' _ _ _ _ _ _ H' (so4.trans (off_same p p (s5.trans s'))) ((P4.same s5).same s') hc'
open HT in
theorem cut63b (ns : List Int) : cutV (ns.map V.int) none (some 63) = (ns.take 63).map V.int := by
  unfold cutV
  rw [sIx_none, Nat.sub_zero, List.drop_zero]
  have e : sIx (ns.map V.int).length (ns.map V.int).length (some 63) = min 63 (ns.map V.int).length := sIx_nat _ _ 63
  rw [e, List.map_take]
  by_cases c : 63 ≤ (ns.map V.int).length
  · rw [Nat.min_eq_left c]
  · have c' : (ns.map V.int).length ≤ 63 := by omega
    rw [Nat.min_eq_right c', List.take_of_length_le (Nat.le_refl _), List.take_of_length_le c']
theorem rd_law {p0 : Addr} {ns : List Int} (hS : SqL K H p0 (ns.map V.int)) (hl : ns.length ≤ 63) (hb : ∀ x ∈ ns, x.natAbs < 2 ^ 2 ^ 20) (q : ∀ H', Q (.bl true) H') :
    t_law K { nx := fun _ H' => Q .non H', rt := Q } (L2.start ["_law_script", "_law_cell", "_law_left_here", "_law_table_here", "_law_which", "_law_weights_here", "_law_handed", "_law_due_here", "_law_told", "_law_turn", "_law_answer_here"] [.ref p0]) H := by
  unfold t_law
  simp only [t_law_0_eq,t_law_1_eq,t_law_2_eq,t_law_3_eq,t_law_4_eq,t_law_5_eq,t_law_6_eq,↓tVar_c0,↓tVar_c1,↓tVar_c2,↓tVar_c3,↓tVar_c4,↓tVar_c5,↓tVar_c6,↓tVar_c7,↓tVar_c8,↓tVar_c10,↓rI0_c,↓rIxL_c,↓ex_bl,↓ex_int,↓ex_ref,↓ex_l1i,↓ex_l1r,↓rNeDN,↓rIn,↓tComp_eq,↓rNeD,capS,↓tNoTest,↓tSl,↓tNoPart,↓tPart,↓rSlL,↓rAppend,Option.bind_some,Option.bind_none,Option.join_some,Option.map_some,List.getElem?_cons_zero,List.getElem?_cons_succ,↓rCat,V.str.injEq,V.ty.injEq,↓tBM,↓tFor_eq,↓iRng1,↓iList,↓tSeq,↓tNext,↓tAsg,↓gName,↓tCB,↓tCons,↓tNil,tVar,↓tC,↓tOp,↓tTest,↓tB,↓tOr,↓tNot,↓tIfS,↓tRet,↓tDrop,↓tLst,↓tCall,rI0,rIxL,L2.start,truV_int,truV_bl,scal_int,scal_bl,List.map_cons,List.map_nil,List.length_cons,List.length_nil,List.replicate,List.cons_append,List.nil_append,List.append_nil,Option.some.injEq,exists_eq_left',exists_eq_left,exists_and_left,List.cons.injEq,V.int.injEq,V.ref.injEq,V.bl.injEq,and_true,true_and,List.set_cons_zero,List.set_cons_succ,Nat.reduceAdd,Nat.reduceSub,Int.reduceToNat,Int.reducePow,Int.reduceNeg,Int.reduceMul,Int.reduceAdd,Int.reduceSub,decide_eq_true_eq,Bool.not_eq_true',decide_eq_false_iff_not,exists_const,and_assoc,exists_eq,exists_eq',if_true,if_false,Bool.false_eq_true,Bool.true_eq_false,reduceCtorEq,not_true_eq_false,not_false_eq_true]
  refine ⟨by decide, fun e1 g1 => ⟨_, (same_new g1 _).seq hS, fun e2 g2 => ⟨_, same_new g2 _ _ _ upd_same, _, upd_same, ?_, fun e3 g3 => ?_⟩⟩⟩
  · rw [cut63b, List.length_map, List.length_take, List.length_singleton]
    simp only [sizeLine]
    omega
  rw [cut63b] at g3 ⊢
  have e : [V.int 0] ++ (ns.take 63).map V.int = (0 :: ns.take 63).map V.int := rfl
  rw [e]
  have hc : ∀ x ∈ 0 :: ns.take 63, x.natAbs < 2 ^ 2 ^ 20 := fun x hx => by
    rcases List.mem_cons.mp hx with rfl | hx
    · exact Nat.two_pow_pos _
    · exact hb x (List.mem_of_mem_take hx)
  generalize (0 :: ns.take 63) = cs at hc ⊢
  have h3 : (L2.upd (L2.upd (L2.upd H e1 (.lst [V.int 0])) e2 (.lst ((ns.take 63).map V.int))) e3 (.lst (cs.map V.int))) e3 = some (.lst (cs.map V.int)) := upd_same
  generalize L2.upd (L2.upd (L2.upd H e1 (.lst [V.int 0])) e2 (.lst ((ns.take 63).map V.int))) e3 (.lst (cs.map V.int)) = H3 at h3 ⊢
  refine ⟨⟨_, SqL.of h3⟩, ?_⟩
  refine for_listF (K := K) (xs := cs.map V.int) (fun i σ H' => Same H3 H' ∧ ∃ u1 u2 u3 u4 u5 u6 u7 u8 u9 u10, σ = [some (.ref p0), u1, u2, u3, u4, u5, u6, u7, u8, u9, u10]) ⟨.refl _, _, _, _, _, _, _, _, _, _, _, rfl⟩ ?_ ?_ ?_
  · rintro i σ H' _ ⟨s, _⟩
    exact SqL.of (s _ _ h3)
  · rintro i x σ H4 hi ⟨s4, u1, u2, u3, u4, u5, u6, u7, u8, u9, u10, rfl⟩
    obtain ⟨cell, ec, rfl⟩ := map_at hi
    simp only [t_law_0_eq,t_law_1_eq,t_law_2_eq,t_law_3_eq,t_law_4_eq,t_law_5_eq,t_law_6_eq,↓tVar_c0,↓tVar_c1,↓tVar_c2,↓tVar_c3,↓tVar_c4,↓tVar_c5,↓tVar_c6,↓tVar_c7,↓tVar_c8,↓tVar_c10,↓rI0_c,↓rIxL_c,↓ex_bl,↓ex_int,↓ex_ref,↓ex_l1i,↓ex_l1r,↓rNeDN,↓rIn,↓tComp_eq,↓rNeD,capS,↓tNoTest,↓tSl,↓tNoPart,↓tPart,↓rSlL,↓rAppend,Option.bind_some,Option.bind_none,Option.join_some,Option.map_some,List.getElem?_cons_zero,List.getElem?_cons_succ,↓rCat,V.str.injEq,V.ty.injEq,↓tBM,↓tFor_eq,↓iRng1,↓iList,↓tSeq,↓tNext,↓tAsg,↓gName,↓tCB,↓tCons,↓tNil,tVar,↓tC,↓tOp,↓tTest,↓tB,↓tOr,↓tNot,↓tIfS,↓tRet,↓tDrop,↓tLst,↓tCall,rI0,rIxL,L2.start,truV_int,truV_bl,scal_int,scal_bl,List.map_cons,List.map_nil,List.length_cons,List.length_nil,List.replicate,List.cons_append,List.nil_append,List.append_nil,Option.some.injEq,exists_eq_left',exists_eq_left,exists_and_left,List.cons.injEq,V.int.injEq,V.ref.injEq,V.bl.injEq,and_true,true_and,List.set_cons_zero,List.set_cons_succ,Nat.reduceAdd,Nat.reduceSub,Int.reduceToNat,Int.reducePow,Int.reduceNeg,Int.reduceMul,Int.reduceAdd,Int.reduceSub,decide_eq_true_eq,Bool.not_eq_true',decide_eq_false_iff_not,exists_const,and_assoc,exists_eq,exists_eq',if_true,if_false,Bool.false_eq_true,Bool.true_eq_false,reduceCtorEq,not_true_eq_false,not_false_eq_true]
    refine ⟨by decide, fun d gd => ?_⟩
    refine ⟨d, cell, rfl, upd_same, hc cell (mem_at ec), fun p H5 s5 fp P5 => ?_⟩
    have s45 := (s4.add gd).trans s5
    have fp3 : H3 p = none := (s4.add gd).free fp
    simp only [t_law_0_eq,t_law_1_eq,t_law_2_eq,t_law_3_eq,t_law_4_eq,t_law_5_eq,t_law_6_eq,↓tVar_c0,↓tVar_c1,↓tVar_c2,↓tVar_c3,↓tVar_c4,↓tVar_c5,↓tVar_c6,↓tVar_c7,↓tVar_c8,↓tVar_c10,↓rI0_c,↓rIxL_c,↓ex_bl,↓ex_int,↓ex_ref,↓ex_l1i,↓ex_l1r,↓rNeDN,↓rIn,↓tComp_eq,↓rNeD,capS,↓tNoTest,↓tSl,↓tNoPart,↓tPart,↓rSlL,↓rAppend,Option.bind_some,Option.bind_none,Option.join_some,Option.map_some,List.getElem?_cons_zero,List.getElem?_cons_succ,↓rCat,V.str.injEq,V.ty.injEq,↓tBM,↓tFor_eq,↓iRng1,↓iList,↓tSeq,↓tNext,↓tAsg,↓gName,↓tCB,↓tCons,↓tNil,tVar,↓tC,↓tOp,↓tTest,↓tB,↓tOr,↓tNot,↓tIfS,↓tRet,↓tDrop,↓tLst,↓tCall,rI0,rIxL,L2.start,truV_int,truV_bl,scal_int,scal_bl,List.map_cons,List.map_nil,List.length_cons,List.length_nil,List.replicate,List.cons_append,List.nil_append,List.append_nil,Option.some.injEq,exists_eq_left',exists_eq_left,exists_and_left,List.cons.injEq,V.int.injEq,V.ref.injEq,V.bl.injEq,and_true,true_and,List.set_cons_zero,List.set_cons_succ,Nat.reduceAdd,Nat.reduceSub,Int.reduceToNat,Int.reducePow,Int.reduceNeg,Int.reduceMul,Int.reduceAdd,Int.reduceSub,decide_eq_true_eq,Bool.not_eq_true',decide_eq_false_iff_not,exists_const,and_assoc,exists_eq,exists_eq',if_true,if_false,Bool.false_eq_true,Bool.true_eq_false,reduceCtorEq,not_true_eq_false,not_false_eq_true]
    refine ⟨p, 0, rfl, P5, by decide, fun t rs rows w c H6 s6 P6 hc6 B6 => ?_⟩
    simp only [t_law_0_eq,t_law_1_eq,t_law_2_eq,t_law_3_eq,t_law_4_eq,t_law_5_eq,t_law_6_eq,↓tVar_c0,↓tVar_c1,↓tVar_c2,↓tVar_c3,↓tVar_c4,↓tVar_c5,↓tVar_c6,↓tVar_c7,↓tVar_c8,↓tVar_c10,↓rI0_c,↓rIxL_c,↓ex_bl,↓ex_int,↓ex_ref,↓ex_l1i,↓ex_l1r,↓rNeDN,↓rIn,↓tComp_eq,↓rNeD,capS,↓tNoTest,↓tSl,↓tNoPart,↓tPart,↓rSlL,↓rAppend,Option.bind_some,Option.bind_none,Option.join_some,Option.map_some,List.getElem?_cons_zero,List.getElem?_cons_succ,↓rCat,V.str.injEq,V.ty.injEq,↓tBM,↓tFor_eq,↓iRng1,↓iList,↓tSeq,↓tNext,↓tAsg,↓gName,↓tCB,↓tCons,↓tNil,tVar,↓tC,↓tOp,↓tTest,↓tB,↓tOr,↓tNot,↓tIfS,↓tRet,↓tDrop,↓tLst,↓tCall,rI0,rIxL,L2.start,truV_int,truV_bl,scal_int,scal_bl,List.map_cons,List.map_nil,List.length_cons,List.length_nil,List.replicate,List.cons_append,List.nil_append,List.append_nil,Option.some.injEq,exists_eq_left',exists_eq_left,exists_and_left,List.cons.injEq,V.int.injEq,V.ref.injEq,V.bl.injEq,and_true,true_and,List.set_cons_zero,List.set_cons_succ,Nat.reduceAdd,Nat.reduceSub,Int.reduceToNat,Int.reducePow,Int.reduceNeg,Int.reduceMul,Int.reduceAdd,Int.reduceSub,decide_eq_true_eq,Bool.not_eq_true',decide_eq_false_iff_not,exists_const,and_assoc,exists_eq,exists_eq',if_true,if_false,Bool.false_eq_true,Bool.true_eq_false,reduceCtorEq,not_true_eq_false,not_false_eq_true]
    refine ⟨by decide, by decide, ?_⟩
    refine for_rangeF (fun j σ H' => ∃ c', Same (Off p p H6) (Off p p H') ∧ Drw H' p c' ∧ c' ≤ 39 + 8 * (j : Int) ∧ ∃ v4 v5 v6 v7 v8 v9 v10, σ = [some (.ref p0), some (.int cell), some (.ref p), some (.ref t), v4, v5, v6, v7, v8, v9, v10]) ⟨c, .refl _, P6, by omega, _, _, _, _, _, _, _, rfl⟩ ?_ ?_
    · rintro j σ H7 hj ⟨c', s7, P7, hc7, v4, v5, v6, v7, v8, v9, v10, rfl⟩
      show t_law_5 K _ [some (.ref p0), some (.int cell), some (.ref p), some (.ref t), some (.int (0 + j)), v5, v6, v7, v8, v9, v10] H7
      exact law_which (by omega) P7 (by omega) (B6.same s7) fun c2 u5 u6 u7 u8 u9 u10 H8 s8 P8 hc8 => ⟨c2, s7.trans s8, P8, by omega, _, _, _, _, _, _, _, rfl⟩
    · rintro σ H7 ⟨c', s7, P7, hc7, v4, v5, v6, v7, v8, v9, v10, rfl⟩
      exact ⟨off_out fp3 s45 (s6.trans s7), _, _, _, _, _, _, _, _, _, _, rfl⟩
  · rintro σ H4 ⟨s4, u1, u2, u3, u4, u5, u6, u7, u8, u9, u10, rfl⟩
    simp only [t_law_0_eq,t_law_1_eq,t_law_2_eq,t_law_3_eq,t_law_4_eq,t_law_5_eq,t_law_6_eq,↓tVar_c0,↓tVar_c1,↓tVar_c2,↓tVar_c3,↓tVar_c4,↓tVar_c5,↓tVar_c6,↓tVar_c7,↓tVar_c8,↓tVar_c10,↓rI0_c,↓rIxL_c,↓ex_bl,↓ex_int,↓ex_ref,↓ex_l1i,↓ex_l1r,↓rNeDN,↓rIn,↓tComp_eq,↓rNeD,capS,↓tNoTest,↓tSl,↓tNoPart,↓tPart,↓rSlL,↓rAppend,Option.bind_some,Option.bind_none,Option.join_some,Option.map_some,List.getElem?_cons_zero,List.getElem?_cons_succ,↓rCat,V.str.injEq,V.ty.injEq,↓tBM,↓tFor_eq,↓iRng1,↓iList,↓tSeq,↓tNext,↓tAsg,↓gName,↓tCB,↓tCons,↓tNil,tVar,↓tC,↓tOp,↓tTest,↓tB,↓tOr,↓tNot,↓tIfS,↓tRet,↓tDrop,↓tLst,↓tCall,rI0,rIxL,L2.start,truV_int,truV_bl,scal_int,scal_bl,List.map_cons,List.map_nil,List.length_cons,List.length_nil,List.replicate,List.cons_append,List.nil_append,List.append_nil,Option.some.injEq,exists_eq_left',exists_eq_left,exists_and_left,List.cons.injEq,V.int.injEq,V.ref.injEq,V.bl.injEq,and_true,true_and,List.set_cons_zero,List.set_cons_succ,Nat.reduceAdd,Nat.reduceSub,Int.reduceToNat,Int.reducePow,Int.reduceNeg,Int.reduceMul,Int.reduceAdd,Int.reduceSub,decide_eq_true_eq,Bool.not_eq_true',decide_eq_false_iff_not,exists_const,and_assoc,exists_eq,exists_eq',if_true,if_false,Bool.false_eq_true,Bool.true_eq_false,reduceCtorEq,not_true_eq_false,not_false_eq_true]
    exact q H4
theorem sc_law : FnScope ["_law_script", "_law_cell", "_law_left_here", "_law_table_here", "_law_which", "_law_weights_here", "_law_handed", "_law_due_here", "_law_told", "_law_turn", "_law_answer_here"] ["_law_script"] (defScope s_law) := ⟨rfl, rfl, rfl, by decide +kernel, rfl, by decide +kernel, by decide +kernel⟩
theorem ok_law (T : Txt K mg a) : FnOk P w K mg base CX0 7 a.f_law a.d_law ["_law_script"] (spLaw K) := by
  have G__law_answer := ok__law_answer (P := P) (w := w) (base := base) T
  have G__law_copy := ok__law_copy (P := P) (w := w) (base := base) T
  have G__law_due := ok__law_due (P := P) (w := w) (base := base) T
  have G__law_left := ok__law_left (P := P) (w := w) (base := base) T
  have G__law_some := ok__law_some (P := P) (w := w) (base := base) T
  have G__law_table := ok__law_table (P := P) (w := w) (base := base) T
  refine T.F_law.ok sc_law (fun vs H Q E h => ?_) (fun cdv A outer s H vs Q E hr h => ?_)
  · obtain ⟨p, ns, rfl, hS, hl, hb, q⟩ := h
    rfl
  obtain ⟨p, ns, rfl, hS, hl, hb, q⟩ := h
  exact ⟨t_law K, (pss_cons (ps_for PassesOwn.never rfl (pi_list (pe_op op_cat (pe_lst (pa_cons pe_int pa_nil)) (pe_slice sl_list (pv 0) po_none (po_some pe_int)))) (pg_name (i := 1) sc_law.nd rfl (Or.inl rfl))
  (pss_cons (ps_set (i := 2) sc_law.nd rfl (Or.inl rfl) (pe_call G__law_left (hr.mono (by decide)) rfl T.m__law_left T.F__law_left.kp T.b__law_left .nil pass0 (pa_cons (pe_lst (pa_cons (pv 1) pa_nil)) (pa_cons pe_int pa_nil))))
  (pss_cons (ps_set (i := 3) sc_law.nd rfl (Or.inl rfl) (pe_call G__law_table (hr.mono (by decide)) rfl T.m__law_table T.F__law_table.kp T.b__law_table .nil pass0 (pa_cons (pv 2) pa_nil)))
  (pss_one (ps_for PassesOwn.never rfl (pi_range1 rfl T.z_range (pa_cons pe_int pa_nil)) (pg_name (i := 4) sc_law.nd rfl (Or.inl rfl))
  (pss_cons (ps_set (i := 5) sc_law.nd rfl (Or.inl rfl) (pe_call G__law_some (hr.mono (by decide)) rfl T.m__law_some T.F__law_some.kp T.b__law_some .nil pass0 (pa_cons (pv 2) (pa_cons (pe_ix ix_list (pe_lst (pa_cons (pe_callB call_len_seq rfl T.z_len PySem.boot_len (pa_cons (pe_ix ix_list (pv 3) pe_int (fun _ _ => rfl)) pa_nil)) (pa_cons (pe_callB call_len_seq rfl T.z_len PySem.boot_len (pa_cons (pv 3) pa_nil)) pa_nil))) (pv 4) (fun _ _ => rfl)) pa_nil))))
  (pss_cons (ps_set (i := 6) sc_law.nd rfl (Or.inl rfl) (pe_lst (pa_cons (pe_call G__law_copy (hr.mono (by decide)) rfl T.m__law_copy T.F__law_copy.kp T.b__law_copy .nil pass0 (pa_cons (pv 3) pa_nil)) (pa_cons (pe_callTy call_list_of rfl T.z_list boot_list (pa_cons (pv 5) pa_nil)) pa_nil))))
  (pss_cons (ps_set (i := 7) sc_law.nd rfl (Or.inr rfl) (pe_call G__law_due (hr.mono (by decide)) rfl T.m__law_due T.F__law_due.kp T.b__law_due .nil pass0 (pa_cons (pv 3) (pa_cons (pv 5) (pa_cons (pv 4) pa_nil)))))
  (pss_cons (ps_set (i := 8) sc_law.nd rfl (Or.inl rfl) (pe_lst pa_nil))
  (pss_cons (ps_for PassesOwn.never rfl (pi_range1 rfl T.z_range (pa_cons pe_int pa_nil)) (pg_name (i := 9) sc_law.nd rfl (Or.inl rfl))
  (pss_cons (ps_set (i := 10) sc_law.nd rfl (Or.inl rfl) (pe_call G__law_answer (hr.mono (by decide)) rfl T.m__law_answer T.F__law_answer.kp T.b__law_answer .nil pass0 (pa_cons (pe_ix ix_list (pv 6) pe_int (fun _ _ => rfl)) (pa_cons (pe_ix ix_list (pv 6) pe_int (fun _ _ => rfl)) (pa_cons (pv 4) pa_nil)))))
  (pss_cons (ps_cut (ps_if (PW.pt (pw_or (pt_cmpR (op_neDN hr.units) (pv 10) (pv 7) (nomark _)) (pw_or1 (pt_cmpR (op_neD hr.units) (pv 6) (pe_lst (pa_cons (pv 3) (pa_cons (pv 5) pa_nil))) (nomark _))))) (pss_one (ps_ret pe_bl)) pss_nil))
  (pss_one (ps_if (pt_cmpR op_notN (pv 10) pe_non (nomark _)) (pss_cons (ps_cut (ps_if (PW.pt (pw_or (pt_not (pt_val (pe_callB call_isinst rfl T.z_isinstance PyProof.Rows.boot_isinstance (pa_cons (pv 10) (pa_cons (pe_bltn rfl T.z_list boot_list rfl) pa_nil))))) (pw_or1 (pt_cmpR op_in_seq pe_bl (pe_comp (sc := defScope s_law) (N := ["_law_script", "_law_cell", "_law_left_here", "_law_table_here", "_law_which", "_law_weights_here", "_law_handed", "_law_due_here", "_law_told", "_law_turn", "_law_answer_here"]) (Nc := ["_law_k"]) (cap := [none]) rfl rfl rfl (.of (by decide +kernel)) (pi_list (pv 10)) (fun _ _ _ _ => (pg_name (i := 0) (show List.Nodup (["_law_k"] : List Str) from by decide) rfl (Or.inl rfl))) (fun _ _ _ _ => pts_nil) (fun _ _ _ _ => (pe_callB call_isinst rfl T.z_isinstance PyProof.Rows.boot_isinstance (pa_cons (pv 0) (pa_cons (pe_bltn rfl T.z_bool boot_bool rfl) pa_nil))))) (by with_unfolding_all rfl))))) (pss_one (ps_ret pe_bl)) pss_nil))
  (pss_cons (ps_expr (pe_bm PySem.F.plainAttrs_list PySem.F.slot_list_append PySem.F.type_list_append mt_append (pv 10) (pa_cons pe_int pa_nil)))
  (pss_one (ps_expr (pe_bm PySem.F.plainAttrs_list PySem.F.slot_list_append PySem.F.type_list_append mt_append (pv 8) (pa_cons (pv 10) pa_nil)))))) pss_nil)))))
  (pss_one (ps_if (pt_cmpR op_gt (pe_callB call_len_seq rfl T.z_len PySem.boot_len (pa_cons (pe_comp (sc := defScope s_law) (N := ["_law_script", "_law_cell", "_law_left_here", "_law_table_here", "_law_which", "_law_weights_here", "_law_handed", "_law_due_here", "_law_told", "_law_turn", "_law_answer_here"]) (Nc := ["_law_answer_here", "_law_due_here"]) (cap := [none, some 7]) rfl rfl rfl (.of (by decide +kernel)) (pi_list (pv 8)) (fun _ _ _ _ => (pg_name (i := 0) (show List.Nodup (["_law_answer_here", "_law_due_here"] : List Str) from by decide) rfl (Or.inl rfl))) (fun _ _ _ _ => (pts_one (pt_cmpR (op_neD hr.units) (pv 0) (pe_op op_cat (pv 1) (pe_lst (pa_cons pe_int pa_nil))) (nomark _)))) (fun _ _ _ _ => (pv 0))) pa_nil)) pe_int (nomark _)) (pss_one (ps_ret pe_bl)) pss_nil))))))))))))
  (pss_one (ps_ret pe_bl))),
    rd_law hS hl hb q⟩
end
theorem lst1 {us : List Value} (h : us.length = 1) : ∃ a0, us = [a0] := match us, h with | [a0], _ => ⟨a0, rfl⟩
theorem lst2 {us : List Value} (h : us.length = 2) : ∃ a0, ∃ a1, us = [a0, a1] := match us, h with | [a0, a1], _ => ⟨a0, a1, rfl⟩
theorem lst3 {us : List Value} (h : us.length = 3) : ∃ a0, ∃ a1, ∃ a2, us = [a0, a1, a2] := match us, h with | [a0, a1, a2], _ => ⟨a0, a1, a2, rfl⟩
theorem txt_mk {K : PySem.W.Frag} {h : Heap} {mg : Str → Option Value} (X : K.In h) (G : h.Ns mainGlobals mg)
    {f0 : Addr} {od0 an0 : Option Addr} {sl0 : Array (Option Value)} {oc0 kV0 dc0 pm0 cd0 ct0 : Value}
    (a0 : PySem.W.nsIn K mainGlobals "is_whole" = some (some (.ref f0))) (l0 : K.lookup f0 = some ⟨oc0, od0, .func (PySem.W.fnOf "is_whole" "is_whole" (defArgs s_is_whole) (defBody s_is_whole) (defScope s_is_whole) .none kV0 dc0 pm0 an0 cd0 ct0), sl0⟩) (c0 : PySem.W.codeIn K cd0 "is_whole" = true) (k0 : PySem.W.keepIn K (.ref f0) = true)
    {f1 : Addr} {od1 an1 : Option Addr} {sl1 : Array (Option Value)} {oc1 kV1 dc1 pm1 cd1 ct1 : Value}
    (a1 : PySem.W.nsIn K mainGlobals "are_weights" = some (some (.ref f1))) (l1 : K.lookup f1 = some ⟨oc1, od1, .func (PySem.W.fnOf "are_weights" "are_weights" (defArgs s_are_weights) (defBody s_are_weights) (defScope s_are_weights) .none kV1 dc1 pm1 an1 cd1 ct1), sl1⟩) (c1 : PySem.W.codeIn K cd1 "are_weights" = true) (k1 : PySem.W.keepIn K (.ref f1) = true)
    {f2 : Addr} {od2 an2 : Option Addr} {sl2 : Array (Option Value)} {oc2 kV2 dc2 pm2 cd2 ct2 : Value}
    (a2 : PySem.W.nsIn K mainGlobals "is_row" = some (some (.ref f2))) (l2 : K.lookup f2 = some ⟨oc2, od2, .func (PySem.W.fnOf "is_row" "is_row" (defArgs s_is_row) (defBody s_is_row) (defScope s_is_row) .none kV2 dc2 pm2 an2 cd2 ct2), sl2⟩) (c2 : PySem.W.codeIn K cd2 "is_row" = true) (k2 : PySem.W.keepIn K (.ref f2) = true)
    {f3 : Addr} {od3 an3 : Option Addr} {sl3 : Array (Option Value)} {oc3 kV3 dc3 pm3 cd3 ct3 : Value}
    (a3 : PySem.W.nsIn K mainGlobals "is_table" = some (some (.ref f3))) (l3 : K.lookup f3 = some ⟨oc3, od3, .func (PySem.W.fnOf "is_table" "is_table" (defArgs s_is_table) (defBody s_is_table) (defScope s_is_table) .none kV3 dc3 pm3 an3 cd3 ct3), sl3⟩) (c3 : PySem.W.codeIn K cd3 "is_table" = true) (k3 : PySem.W.keepIn K (.ref f3) = true)
    {f4 : Addr} {od4 an4 : Option Addr} {sl4 : Array (Option Value)} {oc4 kV4 dc4 pm4 cd4 ct4 : Value}
    (a4 : PySem.W.nsIn K mainGlobals "look_table" = some (some (.ref f4))) (l4 : K.lookup f4 = some ⟨oc4, od4, .func (PySem.W.fnOf "look_table" "look_table" (defArgs s_look_table) (defBody s_look_table) (defScope s_look_table) .none kV4 dc4 pm4 an4 cd4 ct4), sl4⟩) (c4 : PySem.W.codeIn K cd4 "look_table" = true) (k4 : PySem.W.keepIn K (.ref f4) = true)
    {f5 : Addr} {od5 an5 : Option Addr} {sl5 : Array (Option Value)} {oc5 kV5 dc5 pm5 cd5 ct5 : Value}
    (a5 : PySem.W.nsIn K mainGlobals "row_sums" = some (some (.ref f5))) (l5 : K.lookup f5 = some ⟨oc5, od5, .func (PySem.W.fnOf "row_sums" "row_sums" (defArgs s_row_sums) (defBody s_row_sums) (defScope s_row_sums) .none kV5 dc5 pm5 an5 cd5 ct5), sl5⟩) (c5 : PySem.W.codeIn K cd5 "row_sums" = true) (k5 : PySem.W.keepIn K (.ref f5) = true)
    {f6 : Addr} {od6 an6 : Option Addr} {sl6 : Array (Option Value)} {oc6 kV6 dc6 pm6 cd6 ct6 : Value}
    (a6 : PySem.W.nsIn K mainGlobals "column_sums" = some (some (.ref f6))) (l6 : K.lookup f6 = some ⟨oc6, od6, .func (PySem.W.fnOf "column_sums" "column_sums" (defArgs s_column_sums) (defBody s_column_sums) (defScope s_column_sums) .none kV6 dc6 pm6 an6 cd6 ct6), sl6⟩) (c6 : PySem.W.codeIn K cd6 "column_sums" = true) (k6 : PySem.W.keepIn K (.ref f6) = true)
    {f7 : Addr} {od7 an7 : Option Addr} {sl7 : Array (Option Value)} {oc7 kV7 dc7 pm7 cd7 ct7 : Value}
    (a7 : PySem.W.nsIn K mainGlobals "best_rows" = some (some (.ref f7))) (l7 : K.lookup f7 = some ⟨oc7, od7, .func (PySem.W.fnOf "best_rows" "best_rows" (defArgs s_best_rows) (defBody s_best_rows) (defScope s_best_rows) .none kV7 dc7 pm7 an7 cd7 ct7), sl7⟩) (c7 : PySem.W.codeIn K cd7 "best_rows" = true) (k7 : PySem.W.keepIn K (.ref f7) = true)
    {f8 : Addr} {od8 an8 : Option Addr} {sl8 : Array (Option Value)} {oc8 kV8 dc8 pm8 cd8 ct8 : Value}
    (a8 : PySem.W.nsIn K mainGlobals "best_columns" = some (some (.ref f8))) (l8 : K.lookup f8 = some ⟨oc8, od8, .func (PySem.W.fnOf "best_columns" "best_columns" (defArgs s_best_columns) (defBody s_best_columns) (defScope s_best_columns) .none kV8 dc8 pm8 an8 cd8 ct8), sl8⟩) (c8 : PySem.W.codeIn K cd8 "best_columns" = true) (k8 : PySem.W.keepIn K (.ref f8) = true)
    {f9 : Addr} {od9 an9 : Option Addr} {sl9 : Array (Option Value)} {oc9 kV9 dc9 pm9 cd9 ct9 : Value}
    (a9 : PySem.W.nsIn K mainGlobals "_law_mix" = some (some (.ref f9))) (l9 : K.lookup f9 = some ⟨oc9, od9, .func (PySem.W.fnOf "_law_mix" "_law_mix" (defArgs s__law_mix) (defBody s__law_mix) (defScope s__law_mix) .none kV9 dc9 pm9 an9 cd9 ct9), sl9⟩) (c9 : PySem.W.codeIn K cd9 "_law_mix" = true) (k9 : PySem.W.keepIn K (.ref f9) = true)
    {f10 : Addr} {od10 an10 : Option Addr} {sl10 : Array (Option Value)} {oc10 kV10 dc10 pm10 cd10 ct10 : Value}
    (a10 : PySem.W.nsIn K mainGlobals "_law_cell_at" = some (some (.ref f10))) (l10 : K.lookup f10 = some ⟨oc10, od10, .func (PySem.W.fnOf "_law_cell_at" "_law_cell_at" (defArgs s__law_cell_at) (defBody s__law_cell_at) (defScope s__law_cell_at) .none kV10 dc10 pm10 an10 cd10 ct10), sl10⟩) (c10 : PySem.W.codeIn K cd10 "_law_cell_at" = true) (k10 : PySem.W.keepIn K (.ref f10) = true)
    {f11 : Addr} {od11 an11 : Option Addr} {sl11 : Array (Option Value)} {oc11 kV11 dc11 pm11 cd11 ct11 : Value}
    (a11 : PySem.W.nsIn K mainGlobals "_law_left" = some (some (.ref f11))) (l11 : K.lookup f11 = some ⟨oc11, od11, .func (PySem.W.fnOf "_law_left" "_law_left" (defArgs s__law_left) (defBody s__law_left) (defScope s__law_left) .none kV11 dc11 pm11 an11 cd11 ct11), sl11⟩) (c11 : PySem.W.codeIn K cd11 "_law_left" = true) (k11 : PySem.W.keepIn K (.ref f11) = true)
    {f12 : Addr} {od12 an12 : Option Addr} {sl12 : Array (Option Value)} {oc12 kV12 dc12 pm12 cd12 ct12 : Value}
    (a12 : PySem.W.nsIn K mainGlobals "_law_draw" = some (some (.ref f12))) (l12 : K.lookup f12 = some ⟨oc12, od12, .func (PySem.W.fnOf "_law_draw" "_law_draw" (defArgs s__law_draw) (defBody s__law_draw) (defScope s__law_draw) .none kV12 dc12 pm12 an12 cd12 ct12), sl12⟩) (c12 : PySem.W.codeIn K cd12 "_law_draw" = true) (k12 : PySem.W.keepIn K (.ref f12) = true)
    {f13 : Addr} {od13 an13 : Option Addr} {sl13 : Array (Option Value)} {oc13 kV13 dc13 pm13 cd13 ct13 : Value}
    (a13 : PySem.W.nsIn K mainGlobals "_law_table" = some (some (.ref f13))) (l13 : K.lookup f13 = some ⟨oc13, od13, .func (PySem.W.fnOf "_law_table" "_law_table" (defArgs s__law_table) (defBody s__law_table) (defScope s__law_table) .none kV13 dc13 pm13 an13 cd13 ct13), sl13⟩) (c13 : PySem.W.codeIn K cd13 "_law_table" = true) (k13 : PySem.W.keepIn K (.ref f13) = true)
    {f14 : Addr} {od14 an14 : Option Addr} {sl14 : Array (Option Value)} {oc14 kV14 dc14 pm14 cd14 ct14 : Value}
    (a14 : PySem.W.nsIn K mainGlobals "_law_copy" = some (some (.ref f14))) (l14 : K.lookup f14 = some ⟨oc14, od14, .func (PySem.W.fnOf "_law_copy" "_law_copy" (defArgs s__law_copy) (defBody s__law_copy) (defScope s__law_copy) .none kV14 dc14 pm14 an14 cd14 ct14), sl14⟩) (c14 : PySem.W.codeIn K cd14 "_law_copy" = true) (k14 : PySem.W.keepIn K (.ref f14) = true)
    {f15 : Addr} {od15 an15 : Option Addr} {sl15 : Array (Option Value)} {oc15 kV15 dc15 pm15 cd15 ct15 : Value}
    (a15 : PySem.W.nsIn K mainGlobals "_law_whole" = some (some (.ref f15))) (l15 : K.lookup f15 = some ⟨oc15, od15, .func (PySem.W.fnOf "_law_whole" "_law_whole" (defArgs s__law_whole) (defBody s__law_whole) (defScope s__law_whole) .none kV15 dc15 pm15 an15 cd15 ct15), sl15⟩) (c15 : PySem.W.codeIn K cd15 "_law_whole" = true) (k15 : PySem.W.keepIn K (.ref f15) = true)
    {f16 : Addr} {od16 an16 : Option Addr} {sl16 : Array (Option Value)} {oc16 kV16 dc16 pm16 cd16 ct16 : Value}
    (a16 : PySem.W.nsIn K mainGlobals "_law_weights" = some (some (.ref f16))) (l16 : K.lookup f16 = some ⟨oc16, od16, .func (PySem.W.fnOf "_law_weights" "_law_weights" (defArgs s__law_weights) (defBody s__law_weights) (defScope s__law_weights) .none kV16 dc16 pm16 an16 cd16 ct16), sl16⟩) (c16 : PySem.W.codeIn K cd16 "_law_weights" = true) (k16 : PySem.W.keepIn K (.ref f16) = true)
    {f17 : Addr} {od17 an17 : Option Addr} {sl17 : Array (Option Value)} {oc17 kV17 dc17 pm17 cd17 ct17 : Value}
    (a17 : PySem.W.nsIn K mainGlobals "_law_some" = some (some (.ref f17))) (l17 : K.lookup f17 = some ⟨oc17, od17, .func (PySem.W.fnOf "_law_some" "_law_some" (defArgs s__law_some) (defBody s__law_some) (defScope s__law_some) .none kV17 dc17 pm17 an17 cd17 ct17), sl17⟩) (c17 : PySem.W.codeIn K cd17 "_law_some" = true) (k17 : PySem.W.keepIn K (.ref f17) = true)
    {f18 : Addr} {od18 an18 : Option Addr} {sl18 : Array (Option Value)} {oc18 kV18 dc18 pm18 cd18 ct18 : Value}
    (a18 : PySem.W.nsIn K mainGlobals "_law_answer" = some (some (.ref f18))) (l18 : K.lookup f18 = some ⟨oc18, od18, .func (PySem.W.fnOf "_law_answer" "_law_answer" (defArgs s__law_answer) (defBody s__law_answer) (defScope s__law_answer) .none kV18 dc18 pm18 an18 cd18 ct18), sl18⟩) (c18 : PySem.W.codeIn K cd18 "_law_answer" = true) (k18 : PySem.W.keepIn K (.ref f18) = true)
    {f19 : Addr} {od19 an19 : Option Addr} {sl19 : Array (Option Value)} {oc19 kV19 dc19 pm19 cd19 ct19 : Value}
    (a19 : PySem.W.nsIn K mainGlobals "_law_due" = some (some (.ref f19))) (l19 : K.lookup f19 = some ⟨oc19, od19, .func (PySem.W.fnOf "_law_due" "_law_due" (defArgs s__law_due) (defBody s__law_due) (defScope s__law_due) .none kV19 dc19 pm19 an19 cd19 ct19), sl19⟩) (c19 : PySem.W.codeIn K cd19 "_law_due" = true) (k19 : PySem.W.keepIn K (.ref f19) = true)
    {f20 : Addr} {od20 an20 : Option Addr} {sl20 : Array (Option Value)} {oc20 kV20 dc20 pm20 cd20 ct20 : Value}
    (a20 : PySem.W.nsIn K mainGlobals "law" = some (some (.ref f20))) (l20 : K.lookup f20 = some ⟨oc20, od20, .func (PySem.W.fnOf "law" "law" (defArgs s_law) (defBody s_law) (defScope s_law) .none kV20 dc20 pm20 an20 cd20 ct20), sl20⟩) (c20 : PySem.W.codeIn K cd20 "law" = true) (k20 : PySem.W.keepIn K (.ref f20) = true)
    (z_isinstance : PySem.W.nsIn K mainGlobals "isinstance" = some none)
    (z_int : PySem.W.nsIn K mainGlobals "int" = some none)
    (z_bool : PySem.W.nsIn K mainGlobals "bool" = some none)
    (z_list : PySem.W.nsIn K mainGlobals "list" = some none)
    (z_len : PySem.W.nsIn K mainGlobals "len" = some none)
    (z_all : PySem.W.nsIn K mainGlobals "all" = some none)
    (z_sum : PySem.W.nsIn K mainGlobals "sum" = some none)
    (z_min : PySem.W.nsIn K mainGlobals "min" = some none)
    (z_max : PySem.W.nsIn K mainGlobals "max" = some none)
    (z_enumerate : PySem.W.nsIn K mainGlobals "enumerate" = some none)
    (z_zip : PySem.W.nsIn K mainGlobals "zip" = some none)
    (z_range : PySem.W.nsIn K mainGlobals "range" = some none)
    (z_ValueError : PySem.W.nsIn K mainGlobals "ValueError" = some none)
    {c_HideError : Addr} (ac_HideError : PySem.W.nsIn K mainGlobals "HideError" = some (some (.ref c_HideError)))
    {c_NoTable : Addr} (ac_NoTable : PySem.W.nsIn K mainGlobals "NoTable" = some (some (.ref c_NoTable)))
    {c_NoBoxes : Addr} (ac_NoBoxes : PySem.W.nsIn K mainGlobals "NoBoxes" = some (some (.ref c_NoBoxes)))
    {c_NoOrder : Addr} (ac_NoOrder : PySem.W.nsIn K mainGlobals "NoOrder" = some (some (.ref c_NoOrder)))
    {c_NoWeights : Addr} (ac_NoWeights : PySem.W.nsIn K mainGlobals "NoWeights" = some (some (.ref c_NoWeights)))
    {k_MOST : Tok} (ak_MOST : PySem.W.nsIn K mainGlobals "MOST" = some (some (.int 12 k_MOST)))
    (xc_HideError : PySem.W.excIn K c_HideError veMro "ValueError.__new__" = true)
    (xc_NoWeights : PySem.W.excIn K c_NoWeights veMro "ValueError.__new__" = true)
    (i_k_NoTable : PySem.W.kitOne K (.ref c_NoWeights) (.ref c_NoTable) = some false)
    (i_k_NoBoxes : PySem.W.kitOne K (.ref c_NoWeights) (.ref c_NoBoxes) = some false)
    (i_k_NoOrder : PySem.W.kitOne K (.ref c_NoWeights) (.ref c_NoOrder) = some false)
    (i_k_NoWeights : PySem.W.kitOne K (.ref c_NoWeights) (.ref c_NoWeights) = some true)
    (i_k_ValueError : PySem.W.kitOne K (.ref c_NoWeights) (.type "ValueError") = some true)
    (i_sub : PySem.W.subIn K (.ref c_NoWeights) (.ref c_HideError) = some true)
    (e_ga : PySem.W.findIn K (.ref c_NoWeights) "__getattribute__" = some (some (.builtin "BaseException.__getattribute__")))
    (e_gn : PySem.W.findIn K (.ref c_NoWeights) "__getattr__" = some none)
    (e_cl : PySem.W.findIn K (.ref c_NoWeights) "__class__" = some (some (.builtin "object.__class__")))
    (e_mb : PySem.W.mroIn K c_NoWeights (.type "BaseException") = some true)
    (e_mo : PySem.W.mroIn K c_NoWeights (.type "object") = some true)
    : Txt K mg ⟨f0, PySem.W.fnOf "is_whole" "is_whole" (defArgs s_is_whole) (defBody s_is_whole) (defScope s_is_whole) .none kV0 dc0 pm0 an0 cd0 ct0, f1, PySem.W.fnOf "are_weights" "are_weights" (defArgs s_are_weights) (defBody s_are_weights) (defScope s_are_weights) .none kV1 dc1 pm1 an1 cd1 ct1, f2, PySem.W.fnOf "is_row" "is_row" (defArgs s_is_row) (defBody s_is_row) (defScope s_is_row) .none kV2 dc2 pm2 an2 cd2 ct2, f3, PySem.W.fnOf "is_table" "is_table" (defArgs s_is_table) (defBody s_is_table) (defScope s_is_table) .none kV3 dc3 pm3 an3 cd3 ct3, f4, PySem.W.fnOf "look_table" "look_table" (defArgs s_look_table) (defBody s_look_table) (defScope s_look_table) .none kV4 dc4 pm4 an4 cd4 ct4, f5, PySem.W.fnOf "row_sums" "row_sums" (defArgs s_row_sums) (defBody s_row_sums) (defScope s_row_sums) .none kV5 dc5 pm5 an5 cd5 ct5, f6, PySem.W.fnOf "column_sums" "column_sums" (defArgs s_column_sums) (defBody s_column_sums) (defScope s_column_sums) .none kV6 dc6 pm6 an6 cd6 ct6, f7, PySem.W.fnOf "best_rows" "best_rows" (defArgs s_best_rows) (defBody s_best_rows) (defScope s_best_rows) .none kV7 dc7 pm7 an7 cd7 ct7, f8, PySem.W.fnOf "best_columns" "best_columns" (defArgs s_best_columns) (defBody s_best_columns) (defScope s_best_columns) .none kV8 dc8 pm8 an8 cd8 ct8, f9, PySem.W.fnOf "_law_mix" "_law_mix" (defArgs s__law_mix) (defBody s__law_mix) (defScope s__law_mix) .none kV9 dc9 pm9 an9 cd9 ct9, f10, PySem.W.fnOf "_law_cell_at" "_law_cell_at" (defArgs s__law_cell_at) (defBody s__law_cell_at) (defScope s__law_cell_at) .none kV10 dc10 pm10 an10 cd10 ct10, f11, PySem.W.fnOf "_law_left" "_law_left" (defArgs s__law_left) (defBody s__law_left) (defScope s__law_left) .none kV11 dc11 pm11 an11 cd11 ct11, f12, PySem.W.fnOf "_law_draw" "_law_draw" (defArgs s__law_draw) (defBody s__law_draw) (defScope s__law_draw) .none kV12 dc12 pm12 an12 cd12 ct12, f13, PySem.W.fnOf "_law_table" "_law_table" (defArgs s__law_table) (defBody s__law_table) (defScope s__law_table) .none kV13 dc13 pm13 an13 cd13 ct13, f14, PySem.W.fnOf "_law_copy" "_law_copy" (defArgs s__law_copy) (defBody s__law_copy) (defScope s__law_copy) .none kV14 dc14 pm14 an14 cd14 ct14, f15, PySem.W.fnOf "_law_whole" "_law_whole" (defArgs s__law_whole) (defBody s__law_whole) (defScope s__law_whole) .none kV15 dc15 pm15 an15 cd15 ct15, f16, PySem.W.fnOf "_law_weights" "_law_weights" (defArgs s__law_weights) (defBody s__law_weights) (defScope s__law_weights) .none kV16 dc16 pm16 an16 cd16 ct16, f17, PySem.W.fnOf "_law_some" "_law_some" (defArgs s__law_some) (defBody s__law_some) (defScope s__law_some) .none kV17 dc17 pm17 an17 cd17 ct17, f18, PySem.W.fnOf "_law_answer" "_law_answer" (defArgs s__law_answer) (defBody s__law_answer) (defScope s__law_answer) .none kV18 dc18 pm18 an18 cd18 ct18, f19, PySem.W.fnOf "_law_due" "_law_due" (defArgs s__law_due) (defBody s__law_due) (defScope s__law_due) .none kV19 dc19 pm19 an19 cd19 ct19, f20, PySem.W.fnOf "law" "law" (defArgs s_law) (defBody s_law) (defScope s_law) .none kV20 dc20 pm20 an20 cd20 ct20, c_HideError, c_NoTable, c_NoBoxes, c_NoOrder, c_NoWeights, k_MOST⟩ := by
  have F0 := fun_mk (st := s_is_whole) l0 c0 k0
  have b0 := F0.binds (ps := ["thing"]) fun _ _ _ _ _ _ us hl => by obtain ⟨_, rfl⟩ := lst1 hl; rfl
  have F1 := fun_mk (st := s_are_weights) l1 c1 k1
  have b1 := F1.binds (ps := ["thing", "many"]) fun _ _ _ _ _ _ us hl => by obtain ⟨_, _, rfl⟩ := lst2 hl; rfl
  have F2 := fun_mk (st := s_is_row) l2 c2 k2
  have b2 := F2.binds (ps := ["thing"]) fun _ _ _ _ _ _ us hl => by obtain ⟨_, rfl⟩ := lst1 hl; rfl
  have F3 := fun_mk (st := s_is_table) l3 c3 k3
  have b3 := F3.binds (ps := ["thing"]) fun _ _ _ _ _ _ us hl => by obtain ⟨_, rfl⟩ := lst1 hl; rfl
  have F4 := fun_mk (st := s_look_table) l4 c4 k4
  have b4 := F4.binds (ps := ["table"]) fun _ _ _ _ _ _ us hl => by obtain ⟨_, rfl⟩ := lst1 hl; rfl
  have F5 := fun_mk (st := s_row_sums) l5 c5 k5
  have b5 := F5.binds (ps := ["table", "columns"]) fun _ _ _ _ _ _ us hl => by obtain ⟨_, _, rfl⟩ := lst2 hl; rfl
  have F6 := fun_mk (st := s_column_sums) l6 c6 k6
  have b6 := F6.binds (ps := ["table", "rows"]) fun _ _ _ _ _ _ us hl => by obtain ⟨_, _, rfl⟩ := lst2 hl; rfl
  have F7 := fun_mk (st := s_best_rows) l7 c7 k7
  have b7 := F7.binds (ps := ["table", "columns"]) fun _ _ _ _ _ _ us hl => by obtain ⟨_, _, rfl⟩ := lst2 hl; rfl
  have F8 := fun_mk (st := s_best_columns) l8 c8 k8
  have b8 := F8.binds (ps := ["table", "rows"]) fun _ _ _ _ _ _ us hl => by obtain ⟨_, _, rfl⟩ := lst2 hl; rfl
  have F9 := fun_mk (st := s__law_mix) l9 c9 k9
  have b9 := F9.binds (ps := ["_law_number", "_law_k"]) fun _ _ _ _ _ _ us hl => by obtain ⟨_, _, rfl⟩ := lst2 hl; rfl
  have F10 := fun_mk (st := s__law_cell_at) l10 c10 k10
  have b10 := F10.binds (ps := ["_law_script", "_law_k"]) fun _ _ _ _ _ _ us hl => by obtain ⟨_, _, rfl⟩ := lst2 hl; rfl
  have F11 := fun_mk (st := s__law_left) l11 c11 k11
  have b11 := F11.binds (ps := ["_law_script", "_law_k"]) fun _ _ _ _ _ _ us hl => by obtain ⟨_, _, rfl⟩ := lst2 hl; rfl
  have F12 := fun_mk (st := s__law_draw) l12 c12 k12
  have b12 := F12.binds (ps := ["_law_left_here", "_law_base"]) fun _ _ _ _ _ _ us hl => by obtain ⟨_, _, rfl⟩ := lst2 hl; rfl
  have F13 := fun_mk (st := s__law_table) l13 c13 k13
  have b13 := F13.binds (ps := ["_law_left_here"]) fun _ _ _ _ _ _ us hl => by obtain ⟨_, rfl⟩ := lst1 hl; rfl
  have F14 := fun_mk (st := s__law_copy) l14 c14 k14
  have b14 := F14.binds (ps := ["_law_table_here"]) fun _ _ _ _ _ _ us hl => by obtain ⟨_, rfl⟩ := lst1 hl; rfl
  have F15 := fun_mk (st := s__law_whole) l15 c15 k15
  have b15 := F15.binds (ps := ["_law_thing"]) fun _ _ _ _ _ _ us hl => by obtain ⟨_, rfl⟩ := lst1 hl; rfl
  have F16 := fun_mk (st := s__law_weights) l16 c16 k16
  have b16 := F16.binds (ps := ["_law_thing", "_law_many"]) fun _ _ _ _ _ _ us hl => by obtain ⟨_, _, rfl⟩ := lst2 hl; rfl
  have F17 := fun_mk (st := s__law_some) l17 c17 k17
  have b17 := F17.binds (ps := ["_law_left_here", "_law_many"]) fun _ _ _ _ _ _ us hl => by obtain ⟨_, _, rfl⟩ := lst2 hl; rfl
  have F18 := fun_mk (st := s__law_answer) l18 c18 k18
  have b18 := F18.binds (ps := ["_law_table_here", "_law_weights_here", "_law_which"]) fun _ _ _ _ _ _ us hl => by obtain ⟨_, _, _, rfl⟩ := lst3 hl; rfl
  have F19 := fun_mk (st := s__law_due) l19 c19 k19
  have b19 := F19.binds (ps := ["_law_table_here", "_law_weights_here", "_law_which"]) fun _ _ _ _ _ _ us hl => by obtain ⟨_, _, _, rfl⟩ := lst3 hl; rfl
  have F20 := fun_mk (st := s_law) l20 c20 k20
  have b20 := F20.binds (ps := ["_law_script"]) fun _ _ _ _ _ _ us hl => by obtain ⟨_, rfl⟩ := lst1 hl; rfl
  exact ⟨F0, b0, PySem.W.mg_of X G a0, F1, b1, PySem.W.mg_of X G a1, F2, b2, PySem.W.mg_of X G a2, F3, b3, PySem.W.mg_of X G a3, F4, b4, PySem.W.mg_of X G a4, F5, b5, PySem.W.mg_of X G a5, F6, b6, PySem.W.mg_of X G a6, F7, b7, PySem.W.mg_of X G a7, F8, b8, PySem.W.mg_of X G a8, F9, b9, PySem.W.mg_of X G a9, F10, b10, PySem.W.mg_of X G a10, F11, b11, PySem.W.mg_of X G a11, F12, b12, PySem.W.mg_of X G a12, F13, b13, PySem.W.mg_of X G a13, F14, b14, PySem.W.mg_of X G a14, F15, b15, PySem.W.mg_of X G a15, F16, b16, PySem.W.mg_of X G a16, F17, b17, PySem.W.mg_of X G a17, F18, b18, PySem.W.mg_of X G a18, F19, b19, PySem.W.mg_of X G a19, F20, b20, PySem.W.mg_of X G a20, PySem.W.mg_none_of X G z_isinstance, PySem.W.mg_none_of X G z_int, PySem.W.mg_none_of X G z_bool, PySem.W.mg_none_of X G z_list, PySem.W.mg_none_of X G z_len, PySem.W.mg_none_of X G z_all, PySem.W.mg_none_of X G z_sum, PySem.W.mg_none_of X G z_min, PySem.W.mg_none_of X G z_max, PySem.W.mg_none_of X G z_enumerate, PySem.W.mg_none_of X G z_zip, PySem.W.mg_none_of X G z_range, PySem.W.mg_none_of X G z_ValueError, PySem.W.mg_of X G ac_HideError, PySem.W.mg_of X G ac_NoTable, PySem.W.mg_of X G ac_NoBoxes, PySem.W.mg_of X G ac_NoOrder, PySem.W.mg_of X G ac_NoWeights, PySem.W.mg_of X G ak_MOST, xc_HideError, xc_NoWeights, ⟨i_k_NoTable, i_k_NoBoxes, i_k_NoOrder, i_k_NoWeights, i_k_ValueError, i_sub, excCls_of ⟨e_ga, e_gn, e_cl, e_mb, e_mo, xc_NoWeights⟩⟩⟩
theorem all_mk {K : PySem.W.Frag} {w : World} {mg : Str → Option Value} {h : Heap} {fa : Addr} {P : Program} (X : K.In h) (G : h.Ns mainGlobals mg) (hfa : mg "law" = some (.ref fa)) {a : Ad} (T : Txt K mg a) :
    ∃ fd : FuncData, (∀ (s : Shared) (u : Value), BindsTo s fd ⟨[u], []⟩ [("_law_script", u)]) ∧ ∀ base : Heap, K.In base → base.Ns mainGlobals mg → FnOk P w K mg base CX0 7 fa fd ["_law_script"] (spLaw K) := by
  have e := hfa.symm.trans T.m_law
  cases e
  refine ⟨a.d_law, fun s v => ?_, fun base _ _ => ok_law T⟩
  obtain ⟨oc, od, kV, doc, pm, an, cdv, ct, osl, e, lk, hcd⟩ := T.F_law.ex
  rw [e]
  exact .of_eq rfl
theorem walk {l : PySem.W.OpenLaw} {q : Program} {loose : List Str} {XP : (Str → Option Value) → Heap → Prop} {YP : World → Heap → Prop} {d : DefRec} {K : Params → PySem.W.Frag} (hn : l.most = some 63) (hdf : d.params.defaults = [])
    (hY : ∀ (w : World) (h : Heap), YP w h → (K w.params).In h)
    (F : ∀ (w : World) (mg : Str → Option Value) (fa : Addr) (h : Heap), (K w.params).In h → h.Ns mainGlobals mg → mg d.name = some (.ref fa) →
      ∃ fd : FuncData, (∀ (s : Shared) (u : Value), BindsTo s fd ⟨[u], []⟩ [("_law_script", u)]) ∧ ∀ base : Heap, (K w.params).In base → base.Ns mainGlobals mg → FnOk l.prog w (K w.params) mg base CX0 7 fa fd ["_law_script"] (spLaw (K w.params))) :
    PySem.W.WalkO q loose XP YP l.row.toRowW d [] (fun f vs => PySem.call f vs) :=
  L2.walk_ofL (n := 63) (k := 7) (x := "_law_script") (CX := fun _ => CX0) (sp := fun w => spLaw (K w.params)) hn (by decide) hdf ⟨rfl, by decide, by decide⟩ hY F (fun _ _ a ns hb hl _ hS => ⟨a, ns, rfl, hS, hl, hb, fun _ => rfl⟩) fun _ _ _ _ _ z => z
end My
open PySem PySem.W in
theorem My.walk_at {K : Params → Frag} {w : World} {h : Heap} {l : OpenLaw} {q : Program} {loose : List Str} {XP : (Str → Option Value) → Heap → Prop} {d : DefRec} {C : Prop} (_ : (K w.params).In h)
    (use : WalkO q loose XP (fun w h => (K w.params).In h) l.row.toRowW d [] (fun f vs => PySem.call f vs) → C) (W : WalkO q loose XP (fun w h => (K w.params).In h) l.row.toRowW d [] (fun f vs => PySem.call f vs)) : C := use W
open PySem PySem.W PyProof.Rows PySem.W.X PySem.W.ZRun
set_option maxRecDepth 100000 in
set_option maxHeartbeats 0 in
theorem PySem.Challenge.cw_hideworth_k14_best_rows_and_columns_holds : PySem.Challenge.rw_hideworth_k14_best_rows_and_columns.Holds := by
  w_on; o_law; z_head; (case hw => w_witness2)
  k_fill
  intro w s0 s1 m0 m1 G Y fa o pm cd doc dV kV ho hd hc hD hm hg xs vs as L h1 h2 h3 h4 h5
  z_open Y L KX ZH ZN ZT
  refine My.walk_at (l := PySem.Challenge.rw_hideworth_k14_best_rows_and_columns) KX (fun W => W w s0 s1 m0 m1 G KX fa o pm cd doc dV kV ho hd hc hD hm hg xs vs as h1 h2 h3 h4 h5) (My.walk (l := PySem.Challenge.rw_hideworth_k14_best_rows_and_columns) rfl rfl (fun _ _ h => h) ?F)
  case F =>
    intro w mg fa h KX G hmg
    refine' My.all_mk KX G hmg (My.txt_mk KX G ?a0 ?l0 ?c0 ?k0 ?a1 ?l1 ?c1 ?k1 ?a2 ?l2 ?c2 ?k2 ?a3 ?l3 ?c3 ?k3 ?a4 ?l4 ?c4 ?k4 ?a5 ?l5 ?c5 ?k5 ?a6 ?l6 ?c6 ?k6 ?a7 ?l7 ?c7 ?k7 ?a8 ?l8 ?c8 ?k8 ?a9 ?l9 ?c9 ?k9 ?a10 ?l10 ?c10 ?k10 ?a11 ?l11 ?c11 ?k11 ?a12 ?l12 ?c12 ?k12 ?a13 ?l13 ?c13 ?k13 ?a14 ?l14 ?c14 ?k14 ?a15 ?l15 ?c15 ?k15 ?a16 ?l16 ?c16 ?k16 ?a17 ?l17 ?c17 ?k17 ?a18 ?l18 ?c18 ?k18 ?a19 ?l19 ?c19 ?k19 ?a20 ?l20 ?c20 ?k20 ?z_isinstance ?z_int ?z_bool ?z_list ?z_len ?z_all ?z_sum ?z_min ?z_max ?z_enumerate ?z_zip ?z_range ?z_ValueError ?ac_HideError ?ac_NoTable ?ac_NoBoxes ?ac_NoOrder ?ac_NoWeights ?ak_MOST ?xc_HideError ?xc_NoWeights ?i_k_NoTable ?i_k_NoBoxes ?i_k_NoOrder ?i_k_NoWeights ?i_k_ValueError ?i_sub ?e_ga ?e_gn ?e_cl ?e_mb ?e_mo)
    (case a0 => k_is); (case l0 => k_is); (case c0 => k_is); (case k0 => k_is)
    (case a1 => k_is); (case l1 => k_is); (case c1 => k_is); (case k1 => k_is)
    (case a2 => k_is); (case l2 => k_is); (case c2 => k_is); (case k2 => k_is)
    (case a3 => k_is); (case l3 => k_is); (case c3 => k_is); (case k3 => k_is)
    (case a4 => k_is); (case l4 => k_is); (case c4 => k_is); (case k4 => k_is)
    (case a5 => k_is); (case l5 => k_is); (case c5 => k_is); (case k5 => k_is)
    (case a6 => k_is); (case l6 => k_is); (case c6 => k_is); (case k6 => k_is)
    (case a7 => k_is); (case l7 => k_is); (case c7 => k_is); (case k7 => k_is)
    (case a8 => k_is); (case l8 => k_is); (case c8 => k_is); (case k8 => k_is)
    (case a9 => k_is); (case l9 => k_is); (case c9 => k_is); (case k9 => k_is)
    (case a10 => k_is); (case l10 => k_is); (case c10 => k_is); (case k10 => k_is)
    (case a11 => k_is); (case l11 => k_is); (case c11 => k_is); (case k11 => k_is)
    (case a12 => k_is); (case l12 => k_is); (case c12 => k_is); (case k12 => k_is)
    (case a13 => k_is); (case l13 => k_is); (case c13 => k_is); (case k13 => k_is)
    (case a14 => k_is); (case l14 => k_is); (case c14 => k_is); (case k14 => k_is)
    (case a15 => k_is); (case l15 => k_is); (case c15 => k_is); (case k15 => k_is)
    (case a16 => k_is); (case l16 => k_is); (case c16 => k_is); (case k16 => k_is)
    (case a17 => k_is); (case l17 => k_is); (case c17 => k_is); (case k17 => k_is)
    (case a18 => k_is); (case l18 => k_is); (case c18 => k_is); (case k18 => k_is)
    (case a19 => k_is); (case l19 => k_is); (case c19 => k_is); (case k19 => k_is)
    (case a20 => k_is); (case l20 => k_is); (case c20 => k_is); (case k20 => k_is)
    (case z_isinstance => k_is)
    (case z_int => k_is)
    (case z_bool => k_is)
    (case z_list => k_is)
    (case z_len => k_is)
    (case z_all => k_is)
    (case z_sum => k_is)
    (case z_min => k_is)
    (case z_max => k_is)
    (case z_enumerate => k_is)
    (case z_zip => k_is)
    (case z_range => k_is)
    (case z_ValueError => k_is)
    (case ac_HideError => k_is)
    (case ac_NoTable => k_is)
    (case ac_NoBoxes => k_is)
    (case ac_NoOrder => k_is)
    (case ac_NoWeights => k_is)
    (case ak_MOST => k_is)
    (case xc_HideError => k_exc)
    (case xc_NoWeights => k_exc)
    (case i_k_NoTable => kit_is)
    (case i_k_NoBoxes => kit_is)
    (case i_k_NoOrder => kit_is)
    (case i_k_NoWeights => kit_is)
    (case i_k_ValueError => kit_is)
    (case i_sub => k_is)
    (case e_ga => k_is)
    (case e_gn => k_is)
    (case e_cl => k_is)
    (case e_mb => k_is)
    (case e_mo => k_is)
