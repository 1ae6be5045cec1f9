import PyProof.Rows.All
import Wide.All
import OpenK.AllK
import Wide.FinOn
import Lean
import PyProof.EqAt
import PyProof.EqKinds
import PyProof.TupleCall
import KE.IntBitsLaws
import PyProof.NeKinds
import KE.KIsAll
import PyProof.ExcAttrAll.ValueError
import KE.RegKIsAll
import OpenK.KOwn
import PyProof.ConsumeWalk
import PyProof.SumWalkG
import PyProof.Rows.SeqCalls
import PyProof.Rows.SeqGen
import PyProof.ZipIter
import PyProof.Rows.ZipGen
import PyProof.Rows.FactsT2
import PyProof.WalkInts
import PyProof.SeqI3
import PyProof.AutoSeq1
import KE.KRevSl
import PyProof.WalksEnum
import PyProof.EnumMake
import PyProof.ListRange
import KE.KDictSum
import PyProof.Rows.SortWalk
import KE.KDictLaws
import PyProof.Rows.SetFrom
import PyProof.SetRoads
import PyProof.DictWalks
import KE.KSortTup
import PyProof.Rows.SortRev
import KE.KEqSeq
import PyProof.IsRules
import PyProof.ExcInit
import PyProof.InstStoreFacts
import PyProof.Rows.SortShell
import KE.KRevIter
import PyProof.ListNew
import PyProof.CollectIter
import PyProof.TupleKey
import OpenK.ZGo
import PySem.Challenge.RW_hideworth_k37_webs_looked_at
set_option Elab.async false
set_option linter.all false
set_option maxRecDepth 100000
namespace L2
open PySem PySem.Spec PyProof.Rows
abbrev Key := Sum Int Str
def keyIs : Key → Value → Bool
  | .inl k, v => Value.isInt k v
  | .inr x, v => Value.isStrOf x v
def keyH (w : World) : Key → Int
  | .inl k => hashInt k
  | .inr x => hashStr w x
theorem keyIs_shape : ∀ {k : Key} {v : Value}, keyIs k v = true → (∃ i t, k = Sum.inl i ∧ v = Value.int i t) ∨ (∃ x t, k = Sum.inr x ∧ v = Value.str x t)
  | .inl i, v, h => by
    obtain ⟨t, e⟩ := Value.isInt_shape (k := i) (v := v) h
    exact .inl ⟨i, t, rfl, e⟩
  | .inr x, v, h => by
    obtain ⟨t, e⟩ := Value.isStrOf_shape (x := x) (v := v) h
    exact .inr ⟨x, t, rfl, e⟩
theorem keyIs_int (i : Int) (t : Tok) : keyIs (.inl i) (.int i t) = true := by simp [keyIs, Value.isInt]
theorem keyIs_str (x : Str) (t : Tok) : keyIs (.inr x) (.str x t) = true := by simp [keyIs, Value.isStrOf]
theorem key_ll (a b : Int) : decide ((Sum.inl a : Key) = Sum.inl b) = (a == b) := by
  by_cases e : a = b
  · subst e; simp
  · have h : ¬ (Sum.inl a : Key) = Sum.inl b := fun q => e (Sum.inl.inj q)
    rw [decide_eq_false h]
    exact (beq_eq_false_iff_ne.mpr e).symm
theorem key_rr (a b : Str) : decide ((Sum.inr a : Key) = Sum.inr b) = decide (a = b) := by
  by_cases e : a = b
  · subst e; simp
  · have h : ¬ (Sum.inr a : Key) = Sum.inr b := fun q => e (Sum.inr.inj q)
    rw [decide_eq_false h, decide_eq_false e]
theorem key_lr (a : Int) (b : Str) : decide ((Sum.inl a : Key) = Sum.inr b) = false := decide_eq_false (fun q => nomatch q)
theorem key_rl (a : Str) (b : Int) : decide ((Sum.inr a : Key) = Sum.inl b) = false := decide_eq_false (fun q => nomatch q)
def mixKind (prog : Program) (w : World) : PySem.KeyKind prog w Key where
  is := keyIs
  hash := keyH w
  inj := fun v a b ha hb => by
    rcases keyIs_shape ha with ⟨i, t, rfl, rfl⟩ | ⟨x, t, rfl, rfl⟩
    · rcases keyIs_shape hb with ⟨j, u, rfl, e⟩ | ⟨y, u, rfl, e⟩
      · injection e with e1 _; rw [e1]
      · exact nomatch e
    · rcases keyIs_shape hb with ⟨j, u, rfl, e⟩ | ⟨y, u, rfl, e⟩
      · exact nomatch e
      · injection e with e1 _; rw [e1]
  byValue := fun k v h => by
    rcases keyIs_shape h with ⟨i, t, rfl, rfl⟩ | ⟨x, t, rfl, rfl⟩ <;> rfl
  pyHash := fun hv h => by
    rcases keyIs_shape hv with ⟨i, t, rfl, rfl⟩ | ⟨x, t, rfl, rfl⟩
    · exact wpAny_pyHash_int h
    · exact wpAny_pyHash_str h
  eqBool := fun hu hv h => by
    rcases keyIs_shape hu with ⟨i, t, rfl, rfl⟩ | ⟨x, t, rfl, rfl⟩
    · rcases keyIs_shape hv with ⟨j, u, rfl, rfl⟩ | ⟨y, u, rfl, rfl⟩
      · rw [key_ll] at h; exact wpAny_eqBool_int h
      · rw [key_lr] at h; exact SeqAt.EqAt.int_str i t y u _ _ _ _ h
    · rcases keyIs_shape hv with ⟨j, u, rfl, rfl⟩ | ⟨y, u, rfl, rfl⟩
      · rw [key_rl] at h; exact SeqAt.EqAt.str_int x t j u _ _ _ _ h
      · rw [key_rr] at h; exact wpAny_eqBool_str h
  «strs» := fun k x t v h => by
    rcases keyIs_shape h with ⟨i, u, rfl, e⟩ | ⟨y, u, rfl, e⟩
    · exact nomatch e
    · injection e with e1 _
      subst e1
      cases v <;> rfl
theorem mixKind_int (prog : Program) (w : World) (i : Int) (t : Tok) : (mixKind prog w).is (.inl i) (.int i t) = true := keyIs_int i t
theorem mixKind_str (prog : Program) (w : World) (x : Str) (t : Tok) : (mixKind prog w).is (.inr x) (.str x t) = true := keyIs_str x t
end L2
namespace L2
open PySem PySem.Spec PyProof.Rows
inductive V where
  | non | bl (b : Bool) | int (i : Int) | str (x : Str) | byt (b : Array UInt8) | flt (b : UInt64) | ref (a : Addr) | ty (n : String)
  deriving DecidableEq
def RelV : V → Value → Prop
  | .non, u => u = Value.none
  | .bl b, u => u = Value.bool b
  | .int i, u => ∃ t, u = Value.int i t
  | .str x, u => ∃ t, u = Value.str x t
  | .byt b, u => ∃ t, u = Value.bytes b t
  | .flt b, u => ∃ t, u = Value.float b t
  | .ref a, u => u = Value.ref a
  | .ty n, u => u = Value.type n
abbrev Vals : List V → List Value → Prop := Paired RelV
theorem Vals.length {xs : List V} {us : List Value} (r : Vals xs us) : xs.length = us.length := Paired.length r
theorem Vals.get : ∀ {xs : List V} {us : List Value} {i : Nat} {x : V}, Vals xs us → xs[i]? = some x → ∃ u, us[i]? = some u ∧ RelV x u
  | _, _, _, _, .nil, e => by simp at e
  | _, _, 0, _, .cons r _, e => by simp at e; subst e; exact ⟨_, rfl, r⟩
  | _, _, i + 1, x, .cons _ t, e => by
    obtain ⟨u, h1, h2⟩ := Vals.get (i := i) (x := x) t (by simpa using e)
    exact ⟨u, by simpa using h1, h2⟩
theorem Vals.append : ∀ {xs ys : List V} {us ws : List Value}, Vals xs us → Vals ys ws → Vals (xs ++ ys) (us ++ ws)
  | _, _, _, _, .nil, s => s
  | _, _, _, _, .cons r t, s => .cons r (Vals.append t s)
theorem Vals.take : ∀ {xs : List V} {us : List Value} (n : Nat), Vals xs us → Vals (xs.take n) (us.take n)
  | _, _, 0, _ => .nil
  | _, _, _ + 1, .nil => .nil
  | _, _, n + 1, .cons r t => .cons r (Vals.take n t)
theorem Vals.drop : ∀ {xs : List V} {us : List Value} (n : Nat), Vals xs us → Vals (xs.drop n) (us.drop n)
  | _, _, 0, r => r
  | _, _, _ + 1, .nil => .nil
  | _, _, n + 1, .cons _ t => Vals.drop n t
def RelO : Option V → Option Value → Prop
  | some v, some u => RelV v u
  | none, none => True
  | _, _ => False
def KV {κ : Type} : List (κ × V) → List (κ × Value) → Prop := Paired fun (p : κ × V) (q : κ × Value) => p.1 = q.1 ∧ RelV p.2 q.2
def kV : Key → V
  | .inl i => .int i
  | .inr x => .str x
inductive HO where
    | lst (xs : List V)
    | tup (xs : List V)
    | dK (kvs : List (Key × V)) | dT (kvs : List (List Key × V))
    | set (S : Int → Bool) (n : Nat)
    | ins (C dx : Addr) (fs : List (Str × V))
    | own (x : Addr)
    | xd (fs : List (Str × V))
    | met (f x : Addr)
    | rng (lo hi : Int)
    | frz (o : Obj) (u : HO)
    | tbl (ps : Array Value)
    | ext (φ : Heap → Prop)
abbrev Hp := Addr → Option HO
def upd (H : Hp) (a : Addr) (o : HO) : Hp := fun b => if b = a then some o else H b
theorem upd_same {H : Hp} {a : Addr} {o : HO} : upd H a o a = some o := by unfold upd; rw [if_pos rfl]
theorem upd_ne {H : Hp} {a b : Addr} {o : HO} (h : b ≠ a) : upd H a o b = H b := by unfold upd; rw [if_neg h]
theorem upd_upd {H : Hp} {a : Addr} {o u : HO} : upd (upd H a o) a u = upd H a u := by
  funext b; unfold upd; split <;> rfl
theorem ne_of {H : Hp} {a b : Addr} {o u : HO} (h : H a = some o) (h' : H b = some u) (d : o ≠ u) : a ≠ b := by
  intro e; subst e; rw [h] at h'; exact d (Option.some.inj h')
theorem ne_of_none {H : Hp} {a b : Addr} {o : HO} (h : H a = some o) (h' : H b = none) : a ≠ b := by
  intro e; subst e; rw [h] at h'; cases h'
section
variable (P : Program) (w : World)
def ObjOk (H : Hp) (h : Heap) (a : Addr) : HO → Prop
  | .lst xs => xs.length ≤ sizeLine ∧ ∃ (its : List Value) (n : Nat), Vals xs its ∧ h.get? a = some { cls := .type "list", data := .seq its.toArray n }
  | .tup xs => xs.length ≤ sizeLine ∧ ∃ its : List Value, Vals xs its ∧ IsTup h a its.toArray
  | .dK kvs => kvs.length ≤ sizeLine ∧ (a == sysModules) = false ∧ ∃ vs, KV kvs vs ∧ h.DictOf (mixKind P w) a vs
  | .dT kvs => kvs.length ≤ sizeLine ∧ (a == sysModules) = false ∧ ∃ xs : List (List Key × Addr × Value),
      Paired (fun (p : List Key × V) (q : List Key × Addr × Value) => p.1 = q.1 ∧ H q.2.1 = some (.tup (p.1.map kV)) ∧ RelV p.2 q.2.2) kvs xs ∧
      ∃ o es ep, h.get? a = some o ∧ o.ExactDict ∧ o.data = .dict es ep ∧ es.toList = xs.map (entryOfKey (tupleKind (mixKind P w))) ∧ (xs.map (·.1)).Nodup
  | .set S n => h.SetOf (intKind P w) a S n
  | .ins C dx fs => H dx = some (.own a) ∧ fs.length ≤ 1000 ∧ dx ≠ a ∧ h.get? a = some (PySem.W.instObj C dx) ∧
      ∃ mA, h.Ns1 dx mA ∧ (∀ f, RelO (fs.lookup f) (mA f)) ∧ PySem.Within mA (fs.map (·.1))
  | .own _ => ∃ o, h.get? a = some o
  | .xd fs => ∃ mA, h.Ns1 a mA ∧ ∀ f, RelO (fs.lookup f) (mA f)
  | .rng lo hi => ∃ t u v, h.get? a = some { cls := .type "range", data := .fields #[.int lo t, .int hi u, .int 1 v] }
  | .frz o u => h.get? a = some o ∧ ObjOk H h a u
  | .tbl ps => h.get? a = some { cls := .none, data := .fields ps }
  | .met f x => h.get? a = some (PySem.W.methodObj (.ref f) (.ref x))
  | .ext φ => φ h ∧ (∃ o, h.get? a = some o) ∧ ∀ h1 h2 : Heap, φ h1 → (∀ o, h1.get? a = some o → h2.get? a = some o) → φ h2
def HOk (H : Hp) (h : Heap) : Prop := ∀ a o, H a = some o → ObjOk P w H h a o
end
section
variable {P : Program} {w : World} {H H' : Hp} {h h' : Heap} {a : Addr} {o : HO}
theorem ObjOk.lt (x : ObjOk P w H h a o) : a < h.objs.size := by
  cases o with
  | lst xs => obtain ⟨_, _, _, _, e⟩ := x; exact Heap.lt_size e
  | tup xs => obtain ⟨_, _, _, p⟩ := x; exact p.lt
  | dK kvs => obtain ⟨_, _, _, _, o, _, _, e, _⟩ := x; exact Heap.lt_size e
  | dT kvs => obtain ⟨_, _, _, _, o, _, _, e, _⟩ := x; exact Heap.lt_size e
  | set S n => obtain ⟨o, _, _, _, e, _⟩ := x; exact Heap.lt_size e
  | ins C dx fs => obtain ⟨_, _, _, e, _⟩ := x; exact Heap.lt_size e
  | own y => obtain ⟨_, e⟩ := x; exact Heap.lt_size e
  | xd fs => obtain ⟨_, ⟨_, _, _, e, _⟩, _⟩ := x; exact Heap.lt_size e
  | rng lo hi => obtain ⟨_, _, _, e⟩ := x; exact Heap.lt_size e
  | frz ob u => obtain ⟨e, _⟩ := x; exact Heap.lt_size e
  | tbl ps => exact Heap.lt_size (show h.get? a = some _ from x)
  | met f y => exact Heap.lt_size (show h.get? a = some _ from x)
  | ext φ => obtain ⟨_, ⟨_, e⟩, _⟩ := x; exact Heap.lt_size e
theorem Paired.mapP {α β : Type} {F G : α → β → Prop} : ∀ {l₁ : List α} {l₂ : List β}, Paired F l₁ l₂ → (∀ a b, F a b → G a b) → Paired G l₁ l₂
  | _, _, .nil, _ => .nil
  | _, _, .cons r t, f => .cons (f _ _ r) (Paired.mapP t f)
theorem ObjOk.stay (x : ObjOk P w H h a o) (k : ∀ b u, (b = a ∨ H b = some (.own a)) → h.get? b = some u → h'.get? b = some u)
    (ho : ∀ b, H b = some (.own a) → H' b = some (.own a)) (ht : ∀ b xs, H b = some (.tup xs) → H' b = some (.tup xs)) : ObjOk P w H' h' a o := by
  induction o with
  | lst xs => obtain ⟨z, its, n, r, e⟩ := x; exact ⟨z, its, n, r, k _ _ (.inl rfl) e⟩
  | tup xs => obtain ⟨z, its, r, ob, e, c⟩ := x; exact ⟨z, its, r, ob, k _ _ (.inl rfl) e, c⟩
  | dK kvs => obtain ⟨z, y, vs, r, ob, es, ep, e, c⟩ := x; exact ⟨z, y, vs, r, ob, es, ep, k _ _ (.inl rfl) e, c⟩
  | dT kvs =>
    obtain ⟨z, y, xs, r, ob, es, ep, e, c⟩ := x
    exact ⟨z, y, xs, Paired.mapP r fun p q z => ⟨z.1, ht _ _ z.2.1, z.2.2⟩, ob, es, ep, k _ _ (.inl rfl) e, c⟩
  | set S n => obtain ⟨ob, es, ep, t, e, c⟩ := x; exact ⟨ob, es, ep, t, k _ _ (.inl rfl) e, c⟩
  | ins C dx fs =>
    obtain ⟨d, z, ne, e, mA, ⟨od, es, ep, e2, c⟩, r⟩ := x
    exact ⟨ho _ d, z, ne, k _ _ (.inl rfl) e, mA, ⟨od, es, ep, k _ _ (.inr d) e2, c⟩, r⟩
  | own y => obtain ⟨ob, e⟩ := x; exact ⟨ob, k _ _ (.inl rfl) e⟩
  | xd fs => obtain ⟨mA, ⟨od, es, ep, e, c⟩, r⟩ := x; exact ⟨mA, ⟨od, es, ep, k _ _ (.inl rfl) e, c⟩, r⟩
  | rng lo hi => obtain ⟨t, u, v, e⟩ := x; exact ⟨t, u, v, k _ _ (.inl rfl) e⟩
  | frz ob u ih => obtain ⟨e, q⟩ := x; exact ⟨k _ _ (.inl rfl) e, ih q⟩
  | tbl ps =>
    have e : h.get? a = some { cls := .none, data := .fields ps } := x
    show h'.get? a = some { cls := .none, data := .fields ps }
    exact k a _ (.inl rfl) e
  | met f y =>
    have e : h.get? a = some (PySem.W.methodObj (.ref f) (.ref y)) := x
    show h'.get? a = some (PySem.W.methodObj (.ref f) (.ref y))
    exact k a _ (.inl rfl) e
  | ext φ => obtain ⟨p, ⟨o, e⟩, st⟩ := x; exact ⟨st _ _ p fun o q => k _ _ (.inl rfl) q, ⟨o, k _ _ (.inl rfl) e⟩, st⟩
theorem HOk.lt (x : HOk P w H h) (e : H a = some o) : a < h.objs.size := (x a o e).lt
theorem HOk.fresh (x : HOk P w H h) (e : h.objs.size ≤ a) : H a = none := by
  cases q : H a with
  | none => rfl
  | some u => exact absurd (Nat.lt_of_lt_of_le (x.lt q) e) (Nat.lt_irrefl _)
theorem HOk.kept (x : HOk P w H h) (k : ∀ b u, h.get? b = some u → h'.get? b = some u) : HOk P w H h' := fun a o e =>
  (x a o e).stay (fun b u _ q => k b u q) (fun _ q => q) fun _ _ q => q
theorem HOk.laid (x : HOk P w H h) (k : ∀ b u, h.get? b = some u → h'.get? b = some u) (hp : h.objs.size ≤ a) (new : ObjOk P w (upd H a o) h' a o) : HOk P w (upd H a o) h' := fun b u e => by
  have hn := x.fresh hp
  by_cases hb : b = a
  · subst hb; rw [upd_same] at e; cases e; exact new
  · rw [upd_ne hb] at e
    exact (x b u e).stay (fun c v _ q => k c v q) (fun c q => by rw [upd_ne (ne_of_none q hn)]; exact q) fun c xs q => by rw [upd_ne (ne_of_none q hn)]; exact q
end
def Rd (H : Hp) (a : Addr) (u : HO) : Prop := H a = some u ∨ ∃ o, H a = some (.frz o u)
theorem Rd.ok {P : Program} {w : World} {H : Hp} {h : Heap} {a : Addr} {u : HO} (r : Rd H a u) (x : HOk P w H h) : ObjOk P w H h a u := by
  rcases r with r | ⟨o, r⟩
  · exact x a u r
  · obtain ⟨_, q⟩ := x a _ r
    exact q
def Mut : Option HO → Prop
  | some (.lst _) => True
  | some (.dK _) => True
  | some (.dT _) => True
  | some (.set _ _) => True
  | some (.ins _ _ _) => True
  | some (.ext _) => True
  | _ => False
section
variable {P : Program} {w : World} {H : Hp} {h h' : Heap} {x e : Addr} {o' : HO}
theorem HOk.write (ok : HOk P w H h) (mu : Mut (H x)) (he : e = x ∨ H e = some (.own x)) (k : ∀ b u, b ≠ e → h.get? b = some u → h'.get? b = some u) (heo : ∃ u, h'.get? e = some u)
    (new : ObjOk P w (upd H x o') h' x o') : HOk P w (upd H x o') h' := fun b u q => by
  have nown : ∀ c y, H c = some (.own y) → c ≠ x := fun c y r z => by subst z; rw [r] at mu; exact mu
  have ntup : ∀ c xs, H c = some (.tup xs) → c ≠ x := fun c xs r z => by subst z; rw [r] at mu; exact mu
  by_cases hb : b = x
  · subst hb; rw [upd_same] at q; cases q; exact new
  · rw [upd_ne hb] at q
    by_cases hbe : b = e
    · have q' : H b = some (.own x) := by
        rcases he with z | z
        · exact absurd (hbe.trans z) hb
        · rw [hbe]; exact z
      rw [q] at q'; cases q'
      obtain ⟨v, hv⟩ := heo
      exact ⟨v, by rw [hbe]; exact hv⟩
    · refine (ok b u q).stay (fun c v hc r => k c v ?_ r) (fun c r => by rw [upd_ne (nown c b r)]; exact r) fun c xs r => by rw [upd_ne (ntup c xs r)]; exact r
      rcases hc with rfl | hc
      · exact hbe
      · rintro rfl
        rcases he with z | z
        · exact nown c b hc z
        · rw [hc] at z; cases z; exact hb rfl
end
structure Un (fs ex : List Addr) (H H' : Hp) (h h' : Heap) : Prop where
  keep : ∀ b o, h.get? b = some o → H b = none → b ∉ fs → b ∉ ex → h'.get? b = some o
  slot : ∀ b o, h.get? b = some o → H b = none → b ∈ fs → b ∉ ex → ∃ sl, h'.get? b = some { o with slots := sl }
  free : ∀ b o, h.get? b = some o → H b = none → b ∉ ex → H' b = none
  there : ∀ b o, h.get? b = some o → b ∉ ex → ∃ o', h'.get? b = some o'
  tups : ∀ b xs, H b = some (.tup xs) → H' b = some (.tup xs)
  frzs : ∀ b o u, H b = some (.frz o u) → H' b = some (.frz o u)
  tbls : ∀ b ps, H b = some (.tbl ps) → ∃ more, H' b = some (.tbl (ps ++ more))
section
variable {fs fs' ex ex' : List Addr} {H H1 H2 : Hp} {h h1 h2 h' : Heap} {a x e : Addr} {o : HO}
theorem Un.any (u : Un fs ex H H1 h h1) {b : Addr} {ob : Obj} (q : h.get? b = some ob) (n : H b = none) (hx : b ∉ ex) : ∃ sl, h1.get? b = some { ob with slots := sl } := by
  by_cases hb : b ∈ fs
  · exact u.slot b ob q n hb hx
  · exact ⟨ob.slots, u.keep b ob q n hb hx⟩
theorem Un.kept (k : ∀ b u, h.get? b = some u → h'.get? b = some u) : Un fs ex H H h h' :=
  ⟨fun b ob q _ _ _ => k b ob q, fun b ob q _ _ _ => ⟨ob.slots, k b ob q⟩, fun _ _ _ n _ => n, fun b ob q _ => ⟨ob, k b ob q⟩, fun _ _ q => q, fun _ _ _ q => q, fun _ ps q => ⟨#[], by rw [q]; simp⟩⟩
theorem Un.refl : Un fs ex H H h h := Un.kept fun _ _ q => q
theorem Un.laid (k : ∀ b u, h.get? b = some u → h'.get? b = some u) (hp : h.objs.size ≤ a) (hn : H a = none) : Un fs ex H (upd H a o) h h' where
  keep := fun b u q _ _ _ => k b u q
  slot := fun b u q _ _ _ => ⟨u.slots, k b u q⟩
  free := fun b u q n _ => by rw [upd_ne (Nat.ne_of_lt (Nat.lt_of_lt_of_le (Heap.lt_size q) hp))]; exact n
  there := fun b u q _ => ⟨u, k b u q⟩
  tups := fun b xs q => by rw [upd_ne (ne_of_none q hn)]; exact q
  frzs := fun b u xs q => by rw [upd_ne (ne_of_none q hn)]; exact q
  tbls := fun b ps q => ⟨#[], by rw [upd_ne (ne_of_none q hn), q]; simp⟩
theorem Un.write (mu : Mut (H x)) (he : e = x ∨ H e = some (.own x)) (k : ∀ b u, b ≠ e → h.get? b = some u → h'.get? b = some u) (heo : ∃ u, h'.get? e = some u) : Un fs ex H (upd H x o) h h' := by
  have hx : ∀ b, H b = none → b ≠ x := fun b n z => by subst z; rw [n] at mu; exact mu
  have hb : ∀ b, H b = none → b ≠ e := fun b n z => by
    subst z
    rcases he with r | r
    · exact hx b n r
    · rw [n] at r; cases r
  have hm : ∀ b u, H b = some u → ¬ Mut (some u) → b ≠ x := fun b u q nm z => by subst z; rw [q] at mu; exact nm mu
  refine ⟨fun b u q n _ _ => k b u (hb b n) q, fun b u q n _ _ => ⟨u.slots, k b u (hb b n) q⟩, fun b u q n _ => by rw [upd_ne (hx b n)]; exact n, fun b u q _ => ?_,
    fun b xs q => by rw [upd_ne (hm b _ q fun z => z)]; exact q, fun b u xs q => by rw [upd_ne (hm b _ q fun z => z)]; exact q, fun b ps q => ⟨#[], by rw [upd_ne (hm b _ q fun z => z), q]; simp⟩⟩
  by_cases hbe : b = e
  · subst hbe; exact heo
  · exact ⟨u, k b u hbe q⟩
end
def trk (h : Heap) (H : Hp) : List Addr := (List.range h.objs.size).filter fun a => (H a).isSome
def hidT (h : Heap) (H : Hp) : Heap := PySem.W.hideAll h (trk h H)
theorem hidT_size (h : Heap) (H : Hp) : (hidT h H).objs.size = h.objs.size := PySem.W.hideAll_size _ _
theorem hidT_get {h : Heap} {H : Hp} {b : Addr} {o : Obj} (e : h.get? b = some o) (n : H b = none) : (hidT h H).get? b = some o :=
  PySem.W.hideAll_get _ e fun hm => by
    have q : (H b).isSome = true := (List.mem_filter.mp hm).2
    rw [n] at q; simp at q
theorem of_hidT {h : Heap} {H : Hp} {b : Addr} {o : Obj} (e : (hidT h H).get? b = some o) : h.get? b = some o ∧ H b = none := by
  have e' : h.get? b = some o := PySem.W.of_hideAll (trk h H) e
  refine ⟨e', ?_⟩
  cases q : H b with
  | none => rfl
  | some x =>
    have hm : b ∈ trk h H := List.mem_filter.mpr ⟨List.mem_range.mpr (Heap.lt_size e'), by simp [q]⟩
    have z : (hidT h H).get? b = none := PySem.W.hideAll_none (trk h H) hm
    rw [z] at e; cases e
def allNews (g h : Heap) (L : Addr) : List (Addr × Obj) := (List.range h.objs.size).filterMap fun a => if a = L ∨ (g.get? a).isSome = true then none else (h.get? a).map fun o => (a, o)
def rest (g h : Heap) (L d : Addr) : List (Addr × Obj) := (allNews g h L).filter fun p => decide (p.1 ≠ d)
end L2
namespace L2
open PySem PySem.Spec PyProof.Rows
structure Mod (K : PySem.W.Frag) (mg : Str → Option Value) (base : Heap) : Prop where
  kin : K.In base
  glob : base.Ns mainGlobals mg
  blt : ∃ mb, base.Ns builtinsNs mb ∧ ∀ x : Str, x ≠ "__name__" → mb x = bootBuiltins x
  nolimit : base.NoLimit
structure Cx where
  prog : Program
  w : World
  K : PySem.W.Frag
  mg : Str → Option Value
  base : Heap
  A : Around
  N : List Str
  s₀ : Shared
  H₀ : Hp
  env : Env
  outer : List Env
  stack : List Env
  ex : List Addr
  fn : Str → Bool
  calm : Bool
  pn : List (Addr × Obj)
  xe : Value → Shared → Prop
def frs (l : List Env) : List Addr := l.filterMap (·.frame)
abbrev Cx.fs (X : Cx) : List Addr := frs X.outer
def Vis (sc : Scope) (x : Str) : Prop := sc.names.lookup x = some .local ∨ sc.names.lookup x = some .cell ∨ sc.names.lookup x = some .free
def Loc (sc : Scope) (x : Str) : Prop := sc.names.lookup x = some .local ∨ sc.names.lookup x = some .cell
def Look (env : Env) (h : Heap) (m : Str → Option Value) (x : Str) (u : Value) : Prop :=
  (env.kindOf x = some .local ∧ m x = some u) ∨ ((env.kindOf x = some .cell ∨ env.kindOf x = some .free) ∧ ∃ c, env.cells.lookup x = some c ∧ h.IsCell c (some u))
structure Cx.Ok (X : Cx) : Prop where
  mod : Mod X.K X.mg X.base
  kind : X.env.scope.kind = .function
  glob : X.env.globals = mainGlobals
  blt : X.env.builtins = builtinsNs
  above : X.s₀.heap.objs.size ≤ X.env.locals
  inj : ∀ x y c, X.env.cells.lookup x = some c → X.env.cells.lookup y = some c → x = y
  has : ∀ x, (X.env.kindOf x = some .cell ∨ X.env.kindOf x = some .free) → ∃ c, X.env.cells.lookup x = some c
  cab : ∀ x c, X.fn x = true → X.env.cells.lookup x = some c → X.s₀.heap.objs.size ≤ c
  hd : X.calm = true → X.A.handled = none
  frames : X.A.frames = some X.stack
  stk : X.stack = X.outer ∨ (X.stack = X.env :: X.outer ∧ X.env.frame = some X.env.locals)
  exf : ∀ b ∈ X.ex, b ≠ X.env.locals ∧ ∀ x c, X.env.cells.lookup x = some c → c ≠ b
  bs : ∀ b o, X.base.get? b = some o → X.s₀.heap.get? b = some o ∧ X.H₀ b = none
  bsz : X.base.objs.size ≤ X.s₀.heap.objs.size
  noex : ∀ b o, X.base.get? b = some o → b ∉ X.ex
  exfs : ∀ b ∈ X.ex, b ∉ X.fs
  funs : X.s₀.heap.FunFrames X.base X.outer
  frf : ∀ b ∈ X.fs, X.H₀ b = none
structure Inv (X : Cx) (pins : List (Addr × Obj)) (σ : List (Option V)) (H : Hp) (s : Shared) : Prop where
  ok : X.Ok
  os : s.os = X.s₀.os
  bare : AllBare s.gens
  base : Un X.fs X.ex X.H₀ H X.s₀.heap s.heap
  loc : ∃ m, s.heap.Ns X.env.locals m ∧ ∀ (i : Nat) (x : Str) (v : V), X.N[i]? = some x → σ[i]? = some (some v) → Vis X.env.scope x → ∃ u, RelV v u ∧ Look X.env s.heap m x u
  cell : ∀ x c, X.env.cells.lookup x = some c → ∃ v, s.heap.IsCell c v
  free : H X.env.locals = none
  freeC : ∀ x c, X.env.cells.lookup x = some c → H c = none
  pin : ∀ p ∈ X.pn ++ pins, s.heap.get? p.1 = some p.2 ∧ H p.1 = none ∧ p.1 ≠ X.env.locals ∧ p.1 ∉ X.fs ∧ ∀ v, p.2.data ≠ .cell v
  hok : HOk X.prog X.w H s.heap
  len : σ.length = X.N.length
section
variable {X : Cx} {pins : List (Addr × Obj)} {σ : List (Option V)} {H H' : Hp} {s : Shared} {h' : Heap}
theorem Cx.Ok.nofr (ok : X.Ok) {b : Addr} {o : Obj} (e : X.base.get? b = some o) : b ∉ X.fs := fun hb => by
  have := (ok.funs.mem hb).1
  rw [e] at this; cases this
theorem Inv.bs (I : Inv X pins σ H s) : ∀ b o, X.base.get? b = some o → s.heap.get? b = some o ∧ H b = none := fun b o e =>
  ⟨I.base.keep b o (I.ok.bs b o e).1 (I.ok.bs b o e).2 (I.ok.nofr e) (I.ok.noex b o e), I.base.free b o (I.ok.bs b o e).1 (I.ok.bs b o e).2 (I.ok.noex b o e)⟩
theorem Inv.bk (I : Inv X pins σ H s) : ∀ b o, X.base.get? b = some o → s.heap.get? b = some o := fun b o e => (I.bs b o e).1
theorem Inv.mod (I : Inv X pins σ H s) : Mod X.K X.mg X.base := I.ok.mod
theorem Inv.kIn (I : Inv X pins σ H s) : X.K.In s.heap := I.ok.mod.kin.keeps I.bk
theorem Inv.lt (I : Inv X pins σ H s) : X.env.locals < s.heap.objs.size := let ⟨_, hn, _⟩ := I.loc; hn.lt
theorem Inv.sz (I : Inv X pins σ H s) : X.s₀.heap.objs.size ≤ s.heap.objs.size := Nat.le_trans I.ok.above (Nat.le_of_lt I.lt)
theorem Inv.nofs (I : Inv X pins σ H s) {a : Addr} (h : s.heap.objs.size ≤ a) : a ∉ X.fs := fun hb => by
  obtain ⟨_, o, ho, _⟩ := I.ok.funs.mem hb
  exact absurd (Nat.lt_of_lt_of_le (Heap.lt_size ho) (Nat.le_trans I.sz h)) (Nat.lt_irrefl _)
theorem Inv.cne (I : Inv X pins σ H s) : ∀ x c, X.env.cells.lookup x = some c → c ≠ X.env.locals := fun x c e z => by
  obtain ⟨v, o, ho, hd⟩ := I.cell x c e
  obtain ⟨m, ⟨o', es, ep, ho', hd', _⟩, _⟩ := I.loc
  rw [z, ho'] at ho; cases ho; rw [hd'] at hd; cases hd
theorem Inv.funs (I : Inv X pins σ H s) : s.heap.FunFrames X.base X.outer := by
  have all : ∀ (l : List Env), (∀ b ∈ frs l, b ∈ X.fs) → X.s₀.heap.FunFrames X.base l → s.heap.FunFrames X.base l := by
    intro l
    induction l with
    | nil => intro _ _; trivial
    | cons env r ih =>
      intro hs hl
      obtain ⟨hk, ⟨L, o, hf, hn, ho, hd⟩, hr⟩ := hl
      have hL : L ∈ X.fs := hs L (by unfold frs; rw [List.filterMap_cons, hf]; exact List.mem_cons_self)
      obtain ⟨sl, e⟩ := I.base.slot L o ho (I.ok.frf L hL) hL fun z => I.ok.exfs L z hL
      exact ⟨hk, ⟨L, _, hf, hn, e, hd⟩, ih (fun b hb => hs b (by unfold frs; rw [List.filterMap_cons, hf]; exact List.mem_cons_of_mem _ hb)) hr⟩
  exact all X.outer (fun _ hb => hb) I.ok.funs
theorem Inv.stack (I : Inv X pins σ H s) : s.heap.FunFrames X.base X.stack := by
  rcases I.ok.stk with e | ⟨e, hf⟩
  · rw [e]; exact I.funs
  · rw [e]
    obtain ⟨m, hn, _⟩ := I.loc
    refine .cons (by rw [I.ok.kind]; decide) hf hn ?_ I.funs
    exact Heap.get?_none_of_le (Nat.le_trans I.ok.bsz I.ok.above)
theorem Inv.stkSub (I : Inv X pins σ H s) : ∀ b ∈ frs X.stack, b ∈ X.env.locals :: X.fs := fun b hb => by
  rcases I.ok.stk with e | ⟨e, hf⟩
  · rw [e] at hb; exact List.mem_cons_of_mem _ hb
  · rw [e] at hb
    unfold frs at hb
    rw [List.filterMap_cons, hf] at hb
    exact hb
theorem Inv.stkFree (I : Inv X pins σ H s) : ∀ b ∈ frs X.stack, H b = none := fun b hb => by
  rcases List.mem_cons.mp (I.stkSub b hb) with e | hb
  · rw [e]; exact I.free
  · obtain ⟨_, o, ho, _⟩ := I.ok.funs.mem hb
    exact I.base.free b o ho (I.ok.frf b hb) fun z => I.ok.exfs b z hb
theorem Inv.step {g' : Array GenState} {t' : Nat} {d' : Drawn} {ch : List Addr} (I : Inv X pins σ H s)
    (hch : ∀ b ∈ ch, (b ∈ X.ex ∨ X.s₀.heap.objs.size ≤ b) ∧ b ≠ X.env.locals ∧ (∀ x c, X.env.cells.lookup x = some c → c ≠ b) ∧ ∀ p ∈ X.pn ++ pins, p.1 ≠ b)
    (keep : ∀ b o, b ≠ X.env.locals → b ∉ X.fs → b ∉ ch → s.heap.get? b = some o → H b = none → h'.get? b = some o)
    (slot : ∀ b o, b ≠ X.env.locals → b ∈ X.fs → b ∉ ch → s.heap.get? b = some o → H b = none → ∃ sl, h'.get? b = some { o with slots := sl }) (free : ∀ b o, b ∉ ch → s.heap.get? b = some o → H b = none → H' b = none)
    (there : ∀ b o, b ∉ ch → s.heap.get? b = some o → ∃ o', h'.get? b = some o')
    (tups : ∀ b xs, H b = some (.tup xs) → H' b = some (.tup xs)) (frzs : ∀ b o u, H b = some (.frz o u) → H' b = some (.frz o u)) (tbls : ∀ b ps, H b = some (.tbl ps) → ∃ more, H' b = some (.tbl (ps ++ more)))
    (ns : ∀ m, s.heap.Ns X.env.locals m → h'.Ns X.env.locals m) (hok : HOk X.prog X.w H' h') (hg : AllBare g') :
    Inv X pins σ H' { s with heap := h', gens := g', drawn := d', toks := t' } := by
  have neL : ∀ b o, X.s₀.heap.get? b = some o → b ≠ X.env.locals := fun b o e => Nat.ne_of_lt (Nat.lt_of_lt_of_le (Heap.lt_size e) I.ok.above)
  have neC : ∀ b o, X.s₀.heap.get? b = some o → b ∉ X.ex → b ∉ ch := fun b o e hx hb => by
    rcases (hch b hb).1 with z | z
    · exact hx z
    · exact absurd (Nat.lt_of_lt_of_le (Heap.lt_size e) z) (Nat.lt_irrefl _)
  have cellK : ∀ x c, X.env.cells.lookup x = some c → ∀ v, s.heap.IsCell c v → h'.IsCell c v := fun x c e v ⟨o, ho, hd⟩ => by
    have nch : c ∉ ch := fun z => (hch c z).2.2.1 x c e rfl
    by_cases hc : c ∈ X.fs
    · obtain ⟨sl, q⟩ := slot c o (I.cne x c e) hc nch ho (I.freeC x c e)
      exact ⟨_, q, hd⟩
    · exact ⟨o, keep c o (I.cne x c e) hc nch ho (I.freeC x c e), hd⟩
  refine ⟨I.ok, I.os, hg, ⟨fun b o e n hb hx => ?_, fun b o e n hb hx => ?_, fun b o e n hx => ?_, fun b o e hx => ?_, fun b xs e => tups b xs (I.base.tups b xs e), fun b o xs e => frzs b o xs (I.base.frzs b o xs e), fun b ps e => ?_⟩, ?_, fun x c e => ?_, ?_, fun x c e => ?_, fun p hp => ?_, hok, I.len⟩
  · exact keep b o (neL b o e) hb (neC b o e hx) (I.base.keep b o e n hb hx) (I.base.free b o e n hx)
  · obtain ⟨sl, e1⟩ := I.base.slot b o e n hb hx
    obtain ⟨sl', e2⟩ := slot b _ (neL b o e) hb (neC b o e hx) e1 (I.base.free b o e n hx)
    exact ⟨sl', e2⟩
  · obtain ⟨o', e1⟩ := I.base.there b o e hx
    exact free b o' (neC b o e hx) e1 (I.base.free b o e n hx)
  · obtain ⟨o', e1⟩ := I.base.there b o e hx
    exact there b o' (neC b o e hx) e1
  · obtain ⟨m1, e1⟩ := I.base.tbls b ps e
    obtain ⟨m2, e2⟩ := tbls b _ e1
    exact ⟨m1 ++ m2, by rw [e2, Array.append_assoc]⟩
  · obtain ⟨m, hn, hl⟩ := I.loc
    refine ⟨m, ns m hn, fun i x v e1 e2 e3 => ?_⟩
    obtain ⟨u, r, l⟩ := hl i x v e1 e2 e3
    refine ⟨u, r, ?_⟩
    rcases l with l | ⟨k, c, e, z⟩
    · exact .inl l
    · exact .inr ⟨k, c, e, cellK x c e _ z⟩
  · obtain ⟨v, z⟩ := I.cell x c e
    exact ⟨v, cellK x c e v z⟩
  · obtain ⟨m, ⟨o, _, _, ho, _⟩, _⟩ := I.loc
    exact free _ o (fun z => (hch _ z).2.1 rfl) ho I.free
  · obtain ⟨v, o, ho, hd⟩ := I.cell x c e
    exact free c o (fun z => (hch c z).2.2.1 x c e rfl) ho (I.freeC x c e)
  · obtain ⟨e, n, ne, nf, d⟩ := I.pin p hp
    have nch : p.1 ∉ ch := fun z => (hch p.1 z).2.2.2 p hp rfl
    exact ⟨keep p.1 p.2 ne nf nch e n, free p.1 p.2 nch e n, ne, nf, d⟩
theorem Inv.un {t' : Nat} (I : Inv X pins σ H s) (u : Un X.fs [] H H' s.heap h') (hok : HOk X.prog X.w H' h') : Inv X pins σ H' { s with heap := h', toks := t' } := by
  obtain ⟨m, ⟨o, es, ep, ho, r⟩, _⟩ := id I.loc
  obtain ⟨sl, hL⟩ := u.any ho I.free (by simp)
  exact I.step (g' := s.gens) (d' := s.drawn) (ch := []) (fun _ z => nomatch z) (fun b o _ hb _ e n => u.keep b o e n hb (by simp)) (fun b o _ hb _ e n => u.slot b o e n hb (by simp)) (fun b o _ e n => u.free b o e n (by simp)) (fun b o _ e => u.there b o e (by simp)) u.tups u.frzs u.tbls (fun m' hm => by
    obtain ⟨o', es', ep', ho', r'⟩ := hm
    rw [ho] at ho'; cases ho'
    exact ⟨_, es', ep', hL, r'⟩) hok I.bare
theorem Inv.call {g' : Array GenState} {t' : Nat} {d' : Drawn} {ch : List Addr} (I : Inv X pins σ H s) (u : Un (frs X.stack) ch H H' s.heap h') (hok : HOk X.prog X.w H' h') (hg : AllBare g')
    (hch : ∀ b ∈ ch, (b ∈ X.ex ∨ X.s₀.heap.objs.size ≤ b) ∧ b ≠ X.env.locals ∧ (∀ x c, X.env.cells.lookup x = some c → c ≠ b) ∧ ∀ p ∈ X.pn ++ pins, p.1 ≠ b) :
    Inv X pins σ H' { s with heap := h', gens := g', drawn := d', toks := t' } := by
  obtain ⟨m, ⟨o, es, ep, ho, r⟩, _⟩ := id I.loc
  obtain ⟨sl, hL⟩ := u.any ho I.free fun z => (hch _ z).2.1 rfl
  exact I.step (ch := ch) hch (fun b o hL hb hc e n => u.keep b o e n (fun z => (List.mem_cons.mp (I.stkSub b z)).elim hL hb) hc) (fun b o _ _ hc e n => u.any e n hc) (fun b o hc e n => u.free b o e n hc) (fun b o hc e => u.there b o e hc) u.tups u.frzs u.tbls (fun m' hm => by
    obtain ⟨o', es', ep', ho', r'⟩ := hm
    rw [ho] at ho'; cases ho'
    exact ⟨_, es', ep', hL, r'⟩) hok hg
theorem Inv.turned {t' : Nat} {it : Addr} (I : Inv X pins σ H s) (k : ∀ b o, b ≠ it → s.heap.get? b = some o → h'.get? b = some o) (hn : H it = none) (hL : it ≠ X.env.locals)
    (h1 : it ∈ X.ex ∨ X.s₀.heap.objs.size ≤ it) (h2 : ∀ x c, X.env.cells.lookup x = some c → c ≠ it) (h3 : ∀ p ∈ X.pn ++ pins, p.1 ≠ it) : Inv X pins σ H { s with heap := h', toks := t' } := by
  have nit : ∀ b u, H b = some u → b ≠ it := fun b u e z => by rw [z, hn] at e; cases e
  refine I.step (g' := s.gens) (d' := s.drawn) (ch := [it]) (fun b hb => ?_) (fun b o _ _ hc e _ => k b o (fun z => hc (by simp [z])) e) (fun b o _ _ hc e _ => ⟨o.slots, k b o (fun z => hc (by simp [z])) e⟩) (fun _ _ _ _ n => n)
    (fun b o hc e => ⟨o, k b o (fun z => hc (by simp [z])) e⟩) (fun _ _ e => e) (fun _ _ _ e => e) (fun b ps e => ⟨#[], by rw [e]; simp⟩) (fun m hm => ?_) (fun b u e => ?_) I.bare
  · have e : b = it := by simpa using hb
    subst e
    exact ⟨h1, hL, h2, h3⟩
  · obtain ⟨o, es, ep, ho, r⟩ := hm
    exact ⟨o, es, ep, k _ o (Ne.symm hL) ho, r⟩
  · refine (I.hok b u e).stay (fun c v hc q => k c v ?_ q) (fun _ q => q) fun _ _ q => q
    rcases hc with z | z
    · rw [z]; exact nit b u e
    · exact nit c _ z
theorem Inv.tok (I : Inv X pins σ H s) (t : Nat) : Inv X pins σ H { s with toks := t } := I.un (h' := s.heap) (t' := t) Un.refl I.hok
theorem Inv.kept {t' : Nat} (I : Inv X pins σ H s) (k : ∀ b u, s.heap.get? b = some u → h'.get? b = some u) : Inv X pins σ H { s with heap := h', toks := t' } := I.un (Un.kept k) (I.hok.kept k)
theorem Inv.laid {a : Addr} {o : HO} {t' : Nat} (I : Inv X pins σ H s) (k : ∀ b u, s.heap.get? b = some u → h'.get? b = some u) (hp : s.heap.objs.size ≤ a) (new : ObjOk X.prog X.w (upd H a o) h' a o) :
    Inv X pins σ (upd H a o) { s with heap := h', toks := t' } := I.un (Un.laid k hp (I.hok.fresh hp)) (I.hok.laid k hp new)
theorem Inv.write {x e : Addr} {o : HO} {t' : Nat} (I : Inv X pins σ H s) (mu : Mut (H x)) (he : e = x ∨ H e = some (.own x)) (k : ∀ b u, b ≠ e → s.heap.get? b = some u → h'.get? b = some u) (heo : ∃ u, h'.get? e = some u)
    (new : ObjOk X.prog X.w (upd H x o) h' x o) : Inv X pins σ (upd H x o) { s with heap := h', toks := t' } := I.un (Un.write mu he k heo) (I.hok.write mu he k heo new)
theorem Inv.pins_of {pins' : List (Addr × Obj)} (I : Inv X pins σ H s) (h : ∀ p ∈ pins', s.heap.get? p.1 = some p.2 ∧ H p.1 = none ∧ p.1 ≠ X.env.locals ∧ p.1 ∉ X.fs ∧ ∀ v, p.2.data ≠ .cell v) : Inv X pins' σ H s :=
  ⟨I.ok, I.os, I.bare, I.base, I.loc, I.cell, I.free, I.freeC, fun p hp => (List.mem_append.mp hp).elim (fun z => I.pin p (List.mem_append_left _ z)) (h p), I.hok, I.len⟩
theorem nodup_ix {N : List Str} (hN : N.Nodup) {i j : Nat} {x : Str} (a : N[i]? = some x) (b : N[j]? = some x) : i = j := by
  obtain ⟨h1, e1⟩ := List.getElem?_eq_some_iff.mp a
  obtain ⟨h2, e2⟩ := List.getElem?_eq_some_iff.mp b
  exact (List.getElem_inj hN).mp (e1.trans e2.symm)
theorem store_ok2 {M : Model} {A : Around} {E : Value → Shared → Prop} {i : Nat} {x : Str} {v : V} {u : Value} {Q : Unit → Shared → Prop} (I : Inv X pins σ H s) (hN : X.N.Nodup) (hi : X.N[i]? = some x) (hx : Loc X.env.scope x) (r : RelV v u)
    (h : ∀ s', Inv X pins (σ.set i (some v)) H s' → (∃ a, Heap.SameBut a s.heap s'.heap ∧ (a = X.env.locals ∨ X.env.cells.lookup x = some a)) → Q () s') (hf : X.fn x = true ∨ X.env.scope.names.lookup x = some .local := by first | exact .inl rfl | exact .inr rfl | assumption) : wpAny M A (storeName X.env x u) Q E s := by
  obtain ⟨m, hn, hl⟩ := id I.loc
  have hcls : (X.env.scope.kind == .class || (X.env.scope.kind == .module && X.env.locals != X.env.globals)) = false := by rw [I.ok.kind]; rfl
  have hiσ : i < σ.length := by rw [I.len]; exact (List.getElem?_eq_some_iff.mp hi).1
  have cne := I.cne
  have tracked : ∀ {a : Addr} {h' : Heap}, (∃ o, s.heap.get? a = some o ∧ H a = none) → Heap.SameBut a s.heap h' → HOk X.prog X.w H h' := fun {a h'} ha hs b ob e => by
    obtain ⟨_, _, hfree⟩ := ha
    refine (I.hok b ob e).stay (fun c w' hc q => (hs.2 c ?_).trans q) (fun _ q => q) fun _ _ q => q
    rintro rfl
    rcases hc with rfl | hc
    · rw [hfree] at e; cases e
    · rw [hfree] at hc; cases hc
  rcases hx with hk | hk
  · refine wpAny_storeName_local hk hn (fun h' hn' hs => ?_) hcls
    obtain ⟨oL, _, _, hoL, _⟩ := id hn
    refine h _ ⟨I.ok, I.os, I.bare, ⟨fun b o e n hb hx => ?_, fun b o e n hb hx => ?_, I.base.free, fun b o e hx => ?_, I.base.tups, I.base.frzs, I.base.tbls⟩, ⟨_, hn', fun j y v' e1 e2 e3 => ?_⟩, fun y c e => ?_, I.free, I.freeC, fun p hp => ?_, tracked ⟨oL, hoL, I.free⟩ hs, by simpa using I.len⟩ ⟨_, hs, .inl rfl⟩
    · exact (hs.2 b (Nat.ne_of_lt (Nat.lt_of_lt_of_le (Heap.lt_size e) I.ok.above))).trans (I.base.keep b o e n hb hx)
    · obtain ⟨sl, e1⟩ := I.base.slot b o e n hb hx
      exact ⟨sl, (hs.2 b (Nat.ne_of_lt (Nat.lt_of_lt_of_le (Heap.lt_size e) I.ok.above))).trans e1⟩
    · obtain ⟨o', e1⟩ := I.base.there b o e hx
      exact ⟨o', (hs.2 b (Nat.ne_of_lt (Nat.lt_of_lt_of_le (Heap.lt_size e) I.ok.above))).trans e1⟩
    · by_cases hj : j = i
      · subst hj
        rw [hi] at e1; cases e1
        rw [List.getElem?_set_self hiσ] at e2
        cases e2
        exact ⟨u, r, .inl ⟨hk, by simp⟩⟩
      · rw [List.getElem?_set_ne (Ne.symm hj)] at e2
        obtain ⟨u', r', q⟩ := hl j y v' e1 e2 e3
        refine ⟨u', r', ?_⟩
        rcases q with ⟨k, e⟩ | ⟨k, c, e, z⟩
        · refine .inl ⟨k, ?_⟩
          have : y ≠ x := fun e => hj (nodup_ix hN e1 (e ▸ hi))
          simp [this, e]
        · exact .inr ⟨k, c, e, z.sameBut hs (cne y c e)⟩
    · obtain ⟨w', z⟩ := I.cell y c e
      exact ⟨w', z.sameBut hs (cne y c e)⟩
    · obtain ⟨e, n, ne, nf, d⟩ := I.pin p hp
      exact ⟨(hs.2 p.1 ne).trans e, n, ne, nf, d⟩
  · have hfn : X.fn x = true := by
      rcases hf with z | z
      · exact z
      · rw [z] at hk; cases hk
    obtain ⟨c, hc⟩ := I.ok.has x (.inl hk)
    obtain ⟨w', z⟩ := I.cell x c hc
    refine wpAny_storeName_cell I.ok.kind hk hc z (fun h' hc' hs => ?_)
    obtain ⟨oc, hoc, hocd⟩ := id z
    refine h { s with heap := h' } ⟨I.ok, I.os, I.bare, ⟨fun b o e n hb hx => ?_, fun b o e n hb hx => ?_, I.base.free, fun b o e hx => ?_, I.base.tups, I.base.frzs, I.base.tbls⟩, ⟨m, hn.sameBut hs (Ne.symm (cne x c hc)), fun j y v' e1 e2 e3 => ?_⟩, fun y c' e => ?_, I.free, I.freeC, fun p hp => ?_, tracked ⟨oc, hoc, I.freeC x c hc⟩ hs, by simpa using I.len⟩ ⟨c, hs, .inr hc⟩
    · exact (hs.2 b (Nat.ne_of_lt (Nat.lt_of_lt_of_le (Heap.lt_size e) (I.ok.cab x c hfn hc)))).trans (I.base.keep b o e n hb hx)
    · obtain ⟨sl, e1⟩ := I.base.slot b o e n hb hx
      exact ⟨sl, (hs.2 b (Nat.ne_of_lt (Nat.lt_of_lt_of_le (Heap.lt_size e) (I.ok.cab x c hfn hc)))).trans e1⟩
    · obtain ⟨o', e1⟩ := I.base.there b o e hx
      exact ⟨o', (hs.2 b (Nat.ne_of_lt (Nat.lt_of_lt_of_le (Heap.lt_size e) (I.ok.cab x c hfn hc)))).trans e1⟩
    · by_cases hj : j = i
      · subst hj
        rw [hi] at e1; cases e1
        rw [List.getElem?_set_self hiσ] at e2
        cases e2
        exact ⟨u, r, .inr ⟨.inl hk, c, hc, hc'⟩⟩
      · rw [List.getElem?_set_ne (Ne.symm hj)] at e2
        obtain ⟨u', r', q⟩ := hl j y v' e1 e2 e3
        refine ⟨u', r', ?_⟩
        rcases q with q | ⟨k, c', e, z'⟩
        · exact .inl q
        · refine .inr ⟨k, c', e, z'.sameBut hs ?_⟩
          rintro rfl
          exact hj (nodup_ix hN e1 (I.ok.inj _ _ _ e hc ▸ hi))
    · by_cases hcc : c' = c
      · subst hcc; exact ⟨_, hc'⟩
      · obtain ⟨w2, z2⟩ := I.cell y c' e
        exact ⟨w2, z2.sameBut hs hcc⟩
    · obtain ⟨e, n, ne, nf, d⟩ := I.pin p hp
      refine ⟨(hs.2 p.1 ?_).trans e, n, ne, nf, d⟩
      intro q
      rw [q, hoc] at e
      have q' : oc = p.2 := Option.some.inj e
      exact d w' (by rw [← q']; exact hocd)
theorem store_ok {M : Model} {A : Around} {E : Value → Shared → Prop} {i : Nat} {x : Str} {v : V} {u : Value} {Q : Unit → Shared → Prop} (I : Inv X pins σ H s) (hN : X.N.Nodup) (hi : X.N[i]? = some x) (hx : Loc X.env.scope x) (r : RelV v u)
    (h : ∀ s', Inv X pins (σ.set i (some v)) H s' → Q () s') (hf : X.fn x = true ∨ X.env.scope.names.lookup x = some .local := by first | exact .inl rfl | exact .inr rfl | assumption) : wpAny M A (storeName X.env x u) Q E s :=
  store_ok2 I hN hi hx r (fun s' I' _ => h s' I') hf
theorem Inv.call' {s' : Shared} {ch : List Addr} (I : Inv X pins σ H s) (ho : s'.os = s.os) (u : Un (frs X.stack) ch H H' s.heap s'.heap) (hok : HOk X.prog X.w H' s'.heap) (hg : AllBare s'.gens)
    (hch : ∀ b ∈ ch, (b ∈ X.ex ∨ X.s₀.heap.objs.size ≤ b) ∧ b ≠ X.env.locals ∧ (∀ x c, X.env.cells.lookup x = some c → c ≠ b) ∧ ∀ p ∈ X.pn ++ pins, p.1 ≠ b) : Inv X pins σ H' s' := by
  obtain ⟨h', g', d', t', o'⟩ := s'
  have e : o' = s.os := ho
  subst e
  exact I.call (g' := g') (t' := t') (d' := d') u hok hg hch
end
abbrev XK := Value → Option Addr → Hp → Prop
abbrev St := List (Option V)
abbrev VK := V → Hp → Prop
abbrev TE := St → Hp → VK → Prop
abbrev TT := St → Hp → (Bool → Hp → Prop) → Prop
abbrev TA := St → Hp → (List V → Hp → Prop) → Prop
structure Ends where
  nx : St → Hp → Prop
  rt : VK
  bk : St → Hp → Prop := fun _ _ => False
  ct : St → Hp → Prop := fun _ _ => False
abbrev TS := Ends → St → Hp → Prop
def EP (X : Cx) (pins : List (Addr × Obj)) (σ : St) (Q : VK) (u : Value) (s' : Shared) : Prop := ∃ v H', Inv X pins σ H' s' ∧ RelV v u ∧ Q v H'
def TP (X : Cx) (pins : List (Addr × Obj)) (σ : St) (Q : Bool → Hp → Prop) (b : Bool) (s' : Shared) : Prop := ∃ H', Inv X pins σ H' s' ∧ Q b H'
def AP (X : Cx) (pins : List (Addr × Obj)) (σ : St) (Q : List V → Hp → Prop) (us : List Value) (s' : Shared) : Prop := ∃ vs H', Inv X pins σ H' s' ∧ Vals vs us ∧ Q vs H'
def SP (X : Cx) (pins : List (Addr × Obj)) (D : Ends) (f : Flow) (s' : Shared) : Prop :=
  match f with
  | .next => ∃ σ' H', Inv X pins σ' H' s' ∧ D.nx σ' H'
  | .brk => ∃ σ' H', Inv X pins σ' H' s' ∧ D.bk σ' H'
  | .cont => ∃ σ' H', Inv X pins σ' H' s' ∧ D.ct σ' H'
  | .ret u => ∃ v σ' H', Inv X pins σ' H' s' ∧ RelV v u ∧ D.rt v H'
def PE (X : Cx) (e : Expr) (t : TE) : Prop :=
  ∀ (pins : List (Addr × Obj)) (s : Shared) (σ : St) (H : Hp) (Q : VK), Inv X pins σ H s → t σ H Q → wpAny (model X.prog X.w) X.A (eval e X.env) (EP X pins σ Q) X.xe s
def PT (X : Cx) (e : Expr) (t : TT) : Prop :=
  ∀ (pins : List (Addr × Obj)) (s : Shared) (σ : St) (H : Hp) (Q : Bool → Hp → Prop), Inv X pins σ H s → t σ H Q → wpAny (model X.prog X.w) X.A (isTrue e X.env (eval e X.env)) (TP X pins σ Q) X.xe s
def PW (X : Cx) (e : Expr) (t : TT) : Prop :=
  ∀ (whole : Sem Value) (pins : List (Addr × Obj)) (s : Shared) (σ : St) (H : Hp) (Q : Bool → Hp → Prop), Inv X pins σ H s → t σ H Q → wpAny (model X.prog X.w) X.A (isTrue e X.env whole) (TP X pins σ Q) X.xe s
theorem PW.pt {X : Cx} {e : Expr} {t : TT} (h : PW X e t) : PT X e t := h _
def PA (X : Cx) (es : List Expr) (t : TA) : Prop :=
  ∀ (pos : Pos) (pins : List (Addr × Obj)) (s : Shared) (σ : St) (H : Hp) (Q : List V → Hp → Prop), Inv X pins σ H s → t σ H Q → wpAny (model X.prog X.w) X.A (spliced (backTo pos (starEach es X.env))) (AP X pins σ Q) X.xe s
def PS (X : Cx) (st : Stmt) (t : TS) : Prop :=
  ∀ (pins : List (Addr × Obj)) (s : Shared) (σ : St) (H : Hp) (D : Ends), Inv X pins σ H s → t D σ H → wpAny (model X.prog X.w) X.A (exec st X.env) (SP X pins D) X.xe s
def PSs (X : Cx) (st : List Stmt) (t : TS) : Prop :=
  ∀ (pins : List (Addr × Obj)) (s : Shared) (σ : St) (H : Hp) (D : Ends), Inv X pins σ H s → t D σ H → wpAny (model X.prog X.w) X.A (execs st X.env) (SP X pins D) X.xe s
theorem thn {α : Type} {t : Sem α} {Q Q' : α → Shared → Prop} {M : Model} {A : Around} {E : Value → Shared → Prop} {s : Shared} (h : wpAny M A t Q E s) (hQ : ∀ a s, Q a s → Q' a s) : wpAny M A t Q' E s := wpAny_mono h hQ fun _ _ x => x
end L2
namespace L2
open PySem PySem.Spec PyProof.Rows
section
variable {X : Cx}
def tVar (i : Nat) : TE := fun σ H Q => ∃ v, σ[i]? = some (some v) ∧ Q v H
def tC (v : V) : TE := fun _ H Q => Q v H
theorem pe_var {i : Nat} {x : Str} {pos : Pos} (hN : X.N[i]? = some x) (hv : Vis X.env.scope x) (hd : (x == ("__debug__" : Str)) = false := by decide) (hcd : (x == ("__classdict__" : Str)) = false := by decide) : PE X (.Name x pos) (tVar i) := by
  intro pins s σ H Q I h
  obtain ⟨v, e, h⟩ := h
  obtain ⟨m, hn, hl⟩ := I.loc
  obtain ⟨u, r, l⟩ := hl i x v hN e hv
  have fin : EP X pins σ Q u s := ⟨v, H, I, r, h⟩
  rcases l with ⟨hk, hm⟩ | ⟨hk, c, hc, hcell⟩
  · exact wpAny_Name (wpAny_loadName_local I.ok.kind hk hn hm fin) hd
  · rcases hk with hk | hk
    · exact wpAny_Name (wpAny_loadName_cell I.ok.kind hk hc hcell fin) hd
    · exact wpAny_Name (wpAny_loadName_free I.ok.kind hk hc hcell fin hcd) hd
theorem pe_int {i j pos} : PE X (.Constant (.int i) j pos) (tC (.int i)) := fun _ _ _ H _ I h => wpAny_Constant_int ⟨.int i, H, I.tok _, ⟨_, rfl⟩, h⟩
theorem pe_bl {b j pos} : PE X (.Constant (.bool b) j pos) (tC (.bl b)) := fun _ _ _ H _ I h => Constant_bool ⟨.bl b, H, I, rfl, h⟩
theorem pe_non {j pos} : PE X (.Constant .none j pos) (tC .non) := fun _ _ _ H _ I h => Constant_none ⟨.non, H, I, rfl, h⟩
def Gl (X : Cx) (x : Str) : Prop := X.env.kindOf x = some .globalImplicit
theorem ld_glob {E : Value → Shared → Prop} {pins : List (Addr × Obj)} {s : Shared} {σ : St} {H : Hp} {x : Str} {u : Value} {pos : Pos} {Q : Value → Shared → Prop} (I : Inv X pins σ H s) (hg : Gl X x) (hm : X.mg x = some u) (h : Q u s)
    (hd : (x == ("__debug__" : Str)) = false := by decide) : wpAny (model X.prog X.w) X.A (eval (.Name x pos) X.env) Q E s :=
  Calls.Name_function_global I.ok.kind hg (Calls.loadGlobal_global (by rw [I.ok.glob]; exact I.mod.glob.keeps I.bk) hm h) hd
theorem ld_blt {E : Value → Shared → Prop} {pins : List (Addr × Obj)} {s : Shared} {σ : St} {H : Hp} {x : Str} {u : Value} {pos : Pos} {Q : Value → Shared → Prop} (I : Inv X pins σ H s) (hg : Gl X x) (hm : X.mg x = none) (hv : bootBuiltins x = some u) (h : Q u s)
    (hn : x ≠ "__name__" := by decide) (hd : (x == ("__debug__" : Str)) = false := by decide) : wpAny (model X.prog X.w) X.A (eval (.Name x pos) X.env) Q E s := by
  obtain ⟨mb, h1, h2⟩ := I.mod.blt
  exact Calls.Name_function_global I.ok.kind hg (Calls.loadGlobal_builtin (by rw [I.ok.glob]; exact I.mod.glob.keeps I.bk) hm (by rw [I.ok.blt]; exact h1.keeps I.bk) ((h2 x hn).trans hv) h) hd
theorem pe_glob {x : Str} {v : V} {u : Value} {pos : Pos} (hg : Gl X x) (hm : X.mg x = some u) (r : RelV v u) (hd : (x == ("__debug__" : Str)) = false := by decide) : PE X (.Name x pos) (tC v) :=
  fun _ _ _ H _ I h => ld_glob I hg hm ⟨v, H, I, r, h⟩ hd
theorem pe_bltn {x : Str} {v : V} {u : Value} {pos : Pos} (hg : Gl X x) (hm : X.mg x = none) (hv : bootBuiltins x = some u) (r : RelV v u) (hn : x ≠ "__name__" := by decide) (hd : (x == ("__debug__" : Str)) = false := by decide) : PE X (.Name x pos) (tC v) :=
  fun _ _ _ H _ I h => ld_blt I hg hm hv ⟨v, H, I, r, h⟩ hn hd
variable {a b : Expr} {ta tb : TE} {pos : Pos}
def PC (X : Cx) (op : CmpOp) (a b : Expr) (t : TE) : Prop :=
  ∀ (pins : List (Addr × Obj)) (s : Shared) (σ : St) (H : Hp) (Q : VK), Inv X pins σ H s → t σ H Q →
    wpAny (model X.prog X.w) X.A (eval a X.env) (fun v s₁ => wpAny (model X.prog X.w) X.A (eval b X.env) (fun u s₂ => wpAny (model X.prog X.w) X.A (compareOp op v u) (EP X pins σ Q) X.xe s₂) X.xe s₁) X.xe s
def tB (t : TE) : TT := fun σ H Q => t σ H fun x H1 => ∃ c, x = .bl c ∧ Q c H1
theorem pt_cmp {op : CmpOp} {t : TE} (h : PC X op a b t) (h1 : behindInMarks op b = false := by first | exact nobehind _ (by decide) (by decide) | rfl) : PT X (.Compare a [op] [b] pos) (tB t) := by
  intro pins s σ H Q I hw
  refine wpAny_isTrue_Compare1 (thn (h pins s σ H _ I hw) fun v s1 h1 => thn h1 fun u s2 h2 => thn h2 fun c s3 hQ' => ?_) h1
  obtain ⟨x, H1, I1, r1, q1⟩ := hQ'
  obtain ⟨d, rfl, q⟩ := q1
  cases r1
  exact wpAny_truthy_bool ⟨H1, I1, q⟩
theorem pt_val {e : Expr} {t : TE} (h : PE X e t) (he : ∀ whole, isTrue e X.env whole = (do let v ← whole; standAt e.pos; holding [v] (truthy v)) := by intro _; rfl) : PT X e (tB t) := by
  intro pins s σ H Q I hw
  refine isTrue_plain (thn (h pins s σ H _ I hw) fun v s1 hQ' => ?_) (he _)
  obtain ⟨x, H1, I1, r1, q1⟩ := hQ'
  obtain ⟨d, rfl, q⟩ := q1
  cases r1
  exact wpAny_truthy_bool ⟨H1, I1, q⟩
variable {tA tB' : TT} {rest : List Expr}
def tAnd (t u : TT) : TT := fun σ H Q => t σ H fun c H1 => if c = true then u σ H1 Q else Q false H1
def tOr (t u : TT) : TT := fun σ H Q => t σ H fun c H1 => if c = true then Q true H1 else u σ H1 Q
def tNot (t : TT) : TT := fun σ H Q => t σ H fun c H1 => Q (!c) H1
theorem pw_and1 (ha : PT X a tA) : PW X (.BoolOp .And [a] pos) tA := by
  intro wh pins s σ H Q I h
  refine isTrue_and (thn (ha pins s σ H Q I h) fun c s1 e => ?_)
  cases c with
  | true => exact isTrue_and_nil e
  | false => exact e
theorem pw_or1 (ha : PT X a tA) : PW X (.BoolOp .Or [a] pos) tA := by
  intro wh pins s σ H Q I h
  refine isTrue_or (thn (ha pins s σ H Q I h) fun c s1 e => ?_)
  cases c with
  | false => exact isTrue_or_nil e
  | true => exact e
theorem pw_and (ha : PT X a tA) (hb : PW X (.BoolOp .And (b :: rest) pos) tB') : PW X (.BoolOp .And (a :: b :: rest) pos) (tAnd tA tB') := by
  intro wh pins s σ H Q I h
  refine isTrue_and (thn (ha pins s σ H _ I h) fun c s1 hQ' => ?_)
  obtain ⟨H1, I1, q1⟩ := hQ'
  cases c with
  | true => exact hb wh pins s1 σ H1 Q I1 q1
  | false => exact ⟨H1, I1, q1⟩
theorem pw_or (ha : PT X a tA) (hb : PW X (.BoolOp .Or (b :: rest) pos) tB') : PW X (.BoolOp .Or (a :: b :: rest) pos) (tOr tA tB') := by
  intro wh pins s σ H Q I h
  refine isTrue_or (thn (ha pins s σ H _ I h) fun c s1 hQ' => ?_)
  obtain ⟨H1, I1, q1⟩ := hQ'
  cases c with
  | true => exact ⟨H1, I1, q1⟩
  | false => exact hb wh pins s1 σ H1 Q I1 q1
theorem pt_not (ha : PT X a tA) : PT X (.UnaryOp .Not a pos) (tNot tA) := by
  intro pins s σ H Q I h
  exact isTrue_not (ha pins s σ H (fun c H1 => Q (!c) H1) I h)
def tAndV (ta tb : TE) : TE := fun σ H Q => ta σ H fun x H1 => ∃ c, x = .bl c ∧ if c = true then tb σ H1 Q else Q (.bl false) H1
def tNotV (ta : TE) : TE := fun σ H Q => ta σ H fun x H1 => ∃ c, x = .bl c ∧ Q (.bl (!c)) H1
theorem pe_one {op} {t : TE} (h : PE X a t) : PE X (.BoolOp op [a] pos) t := fun pins s σ H Q I hw => BoolOp_one (h pins s σ H Q I hw)
theorem pe_and (ha : PE X a ta) (hb : PE X (.BoolOp .And (b :: rest) pos) tb) : PE X (.BoolOp .And (a :: b :: rest) pos) (tAndV ta tb) := by
  intro pins s σ H Q I h
  refine BoolOp_and (thn (ha pins s σ H _ I h) fun v s1 hQ' => ?_)
  obtain ⟨x, H1, I1, r1, q1⟩ := hQ'
  obtain ⟨c, rfl, q1⟩ := q1
  cases r1
  refine wpAny_truthy_bool ?_
  cases c with
  | true => exact hb pins s1 σ H1 Q I1 q1
  | false => exact ⟨.bl false, H1, I1, rfl, q1⟩
theorem pe_not (ha : PE X a ta) : PE X (.UnaryOp .Not a pos) (tNotV ta) := by
  intro pins s σ H Q I h
  refine UnaryOp_ (thn (ha pins s σ H _ I h) fun v s1 hQ' => ?_)
  obtain ⟨x, H1, I1, r1, q1⟩ := hQ'
  obtain ⟨c, rfl, q1⟩ := q1
  cases r1
  exact not_of (wpAny_truthy_bool ⟨.bl (!c), H1, I1, rfl, q1⟩)
end
end L2
namespace L2
open PySem PySem.Spec PyProof.Rows
def SqL (K : PySem.W.Frag) (H : Hp) (a : Addr) (xs : List V) : Prop :=
  Rd H a (.lst xs) ∨
    ∃ (o : Obj) (its : Array Value) (n : Nat), K.lookup a = some o ∧ o.cls = .type "list" ∧ o.dict = none ∧ o.data = .seq its n ∧ its.size ≤ sizeLine ∧ Vals xs its.toList
def SqT (K : PySem.W.Frag) (H : Hp) (a : Addr) (xs : List V) : Prop :=
  Rd H a (.tup xs) ∨
    ∃ (o : Obj) (its : Array Value) (n : Nat), K.lookup a = some o ∧ o.cls = .type "tuple" ∧ o.data = .seq its n ∧ its.size ≤ sizeLine ∧ Vals xs its.toList
def absV : Value → Option V
  | .none => some .non
  | .bool b => some (.bl b)
  | .int i _ => some (.int i)
  | .str x _ => some (.str x)
  | .bytes b _ => some (.byt b)
  | .float b _ => some (.flt b)
  | .ref a => some (.ref a)
  | .type n => some (.ty n)
  | _ => none
theorem RelV.abs {x : V} {u : Value} (r : RelV x u) : absV u = some x := by
  cases x with
  | non => cases r; rfl
  | bl _ => cases r; rfl
  | int _ => obtain ⟨t, rfl⟩ := r; rfl
  | str _ => obtain ⟨t, rfl⟩ := r; rfl
  | byt _ => obtain ⟨t, rfl⟩ := r; rfl
  | flt _ => obtain ⟨t, rfl⟩ := r; rfl
  | ref _ => cases r; rfl
  | ty _ => cases r; rfl
theorem RelV.inj {x y : V} {u : Value} (r : RelV x u) (q : RelV y u) : x = y := Option.some.inj (r.abs.symm.trans q.abs)
theorem Vals.inj : ∀ {xs ys : List V} {us : List Value}, Vals xs us → Vals ys us → xs = ys
  | _, _, _, .nil, .nil => rfl
  | _, _, _, .cons r t, .cons r' t' => by rw [r.inj r', Vals.inj t t']
section
variable {X : Cx} {pins : List (Addr × Obj)} {σ : St} {H : Hp} {s : Shared} {a : Addr} {xs ys : List V}
theorem SqL.of {K : PySem.W.Frag} (h : H a = some (.lst xs)) : SqL K H a xs := .inl (.inl h)
theorem SqT.of {K : PySem.W.Frag} (h : H a = some (.tup xs)) : SqT K H a xs := .inl (.inl h)
theorem Inv.list (I : Inv X pins σ H s) (h : SqL X.K H a xs) : ∃ its : List Value, Vals xs its ∧ PlainL s.heap a its.toArray ∧ xs.length ≤ sizeLine := by
  rcases h with h | ⟨o, its, n, hk, hc, hd, hs, hz, r⟩
  · obtain ⟨z, its, n, r, e⟩ := h.ok I.hok
    exact ⟨its, r, ⟨_, n, e, rfl, rfl, rfl⟩, z⟩
  · refine ⟨its.toList, r, ⟨o, n, I.kIn a o hk, hc, hd, by simpa using hs⟩, ?_⟩
    have e := r.length
    simp only [Array.length_toList] at e
    (first|lia|omega)
theorem Inv.tuple (I : Inv X pins σ H s) (h : SqT X.K H a xs) : ∃ its : List Value, Vals xs its ∧ IsTup s.heap a its.toArray ∧ xs.length ≤ sizeLine := by
  rcases h with h | ⟨o, its, n, hk, hc, hs, hz, r⟩
  · obtain ⟨z, its, r, p⟩ := h.ok I.hok
    exact ⟨its, r, p, z⟩
  · refine ⟨its.toList, r, ⟨o, I.kIn a o hk, hc, n, by simpa using hs⟩, ?_⟩
    have e := r.length
    simp only [Array.length_toList] at e
    (first|lia|omega)
theorem Inv.list_inj (I : Inv X pins σ H s) (h : SqL X.K H a xs) (h' : SqL X.K H a ys) : xs = ys := by
  obtain ⟨its, r, ⟨o, n, e, _, _, d⟩, _⟩ := I.list h
  obtain ⟨its', r', ⟨o', n', e', _, _, d'⟩, _⟩ := I.list h'
  rw [e] at e'; cases e'
  rw [d] at d'
  injection d' with d1 _
  have : its = its' := by simpa using congrArg Array.toList d1
  subst this
  exact r.inj r'
end
abbrev Cx.wish (X : Cx) (E : Value → Shared → Prop) : Cx := { X with xe := E }
abbrev Cx.nox (X : Cx) : Cx := X.wish fun _ _ => False
theorem Cx.Ok.wish {X : Cx} (ok : X.Ok) (E : Value → Shared → Prop) : (X.wish E).Ok :=
  ⟨ok.mod, ok.kind, ok.glob, ok.blt, ok.above, ok.inj, ok.has, ok.cab, ok.hd, ok.frames, ok.stk, ok.exf, ok.bs, ok.bsz, ok.noex, ok.exfs, ok.funs, ok.frf⟩
theorem Cx.Ok.unwish {X : Cx} {E : Value → Shared → Prop} (ok : (X.wish E).Ok) : X.Ok :=
  ⟨ok.mod, ok.kind, ok.glob, ok.blt, ok.above, ok.inj, ok.has, ok.cab, ok.hd, ok.frames, ok.stk, ok.exf, ok.bs, ok.bsz, ok.noex, ok.exfs, ok.funs, ok.frf⟩
section
variable {X : Cx} {pins : List (Addr × Obj)} {σ : St} {H : Hp} {s : Shared} {E : Value → Shared → Prop}
theorem Inv.wish (I : Inv X pins σ H s) (E : Value → Shared → Prop) : Inv (X.wish E) pins σ H s := ⟨I.ok.wish E, I.os, I.bare, I.base, I.loc, I.cell, I.free, I.freeC, I.pin, I.hok, I.len⟩
theorem Inv.unwish (I : Inv (X.wish E) pins σ H s) : Inv X pins σ H s := ⟨I.ok.unwish, I.os, I.bare, I.base, I.loc, I.cell, I.free, I.freeC, I.pin, I.hok, I.len⟩
theorem SP.unwish {D : Ends} {f : Flow} {s' : Shared} (h : SP (X.wish E) pins D f s') : SP X pins D f s' := by
  cases f with
  | next => obtain ⟨σ', H', I, q⟩ := h; exact ⟨σ', H', I.unwish, q⟩
  | brk => obtain ⟨σ', H', I, q⟩ := h; exact ⟨σ', H', I.unwish, q⟩
  | cont => obtain ⟨σ', H', I, q⟩ := h; exact ⟨σ', H', I.unwish, q⟩
  | ret u => obtain ⟨v, σ', H', I, r, q⟩ := h; exact ⟨v, σ', H', I.unwish, r, q⟩
theorem PSs.nox {st : List Stmt} {t : TS} (h : PSs X.nox st t) : PSs X st t := fun pins s σ H D I hw =>
  wpAny_mono (h pins s σ H D (I.wish _) hw) (fun _ _ q => q.unwish) fun _ _ z => False.elim z
end
section
variable {X : Cx} {st : Stmt} {rest : List Stmt} {t u : TS} {e : Expr} {te : TE} {pos : Pos}
def tNext : TS := fun D σ H => D.nx σ H
def tSeq (t u : TS) : TS := fun D σ H => t { D with nx := u D } σ H
theorem pss_nil : PSs X [] tNext := fun _ _ σ H _ I h => wpAny_execs_nil ⟨σ, H, I, h⟩
theorem pss_cons (h1 : PS X st t) (h2 : PSs X rest u) : PSs X (st :: rest) (tSeq t u) := by
  intro pins s σ H D I h
  refine wpAny_execs_cons (thn (h1 pins s σ H { D with nx := u D } I h) fun f s1 q => ?_)
  cases f with
  | next =>
    obtain ⟨σ', H', I', q⟩ := q
    exact h2 pins s1 σ' H' D I' q
  | ret v => exact q
  | brk => exact q
  | cont => exact q
theorem pss_one (h1 : PS X st t) : PSs X [st] t := by
  intro pins s σ H D I h
  refine wpAny_execs_cons (thn (h1 pins s σ H D I h) fun f s1 q => ?_)
  cases f with
  | next => exact wpAny_execs_nil q
  | ret v => exact q
  | brk => exact q
  | cont => exact q
theorem Inv.quiet {pins : List (Addr × Obj)} {σ : St} {H : Hp} {s : Shared} (I : Inv X pins σ H s) : interactive X.env = false := by simp [interactive, I.ok.kind]
def tDrop (te : TE) : TS := fun D σ H => te σ H fun _ H1 => D.nx σ H1
theorem ps_expr (he : PE X e te) (hs : swapsWith e none pos.line X.env = pure false := by rfl) : PS X (.Expr e pos) (tDrop te) := by
  intro pins s σ H D I h
  exact wpAny_Expr_any (thn (he pins s σ H _ I h) fun v s1 ⟨x, H1, I1, r1, q1⟩ => ⟨σ, H1, I1, q1⟩) I.quiet hs
def tRet (te : TE) : TS := fun D σ H => te σ H D.rt
theorem ps_ret (he : PE X e te) : PS X (.Return (some e) pos) (tRet te) := by
  intro pins s σ H D I h
  exact wpAny_Return_some (thn (he pins s σ H _ I h) fun v s1 ⟨x, H1, I1, r1, q1⟩ => ⟨x, σ, H1, I1, r1, q1⟩)
def tIfS (c : TT) (t u : TS) : TS := fun D σ H => c σ H fun b H1 => if b = true then t D σ H1 else u D σ H1
theorem ps_if {c : Expr} {a b : List Stmt} {tc : TT} (hc : PT X c tc) (ha : PSs X a t) (hb : PSs X b u) : PS X (.If c a b pos) (tIfS tc t u) := by
  intro pins s σ H D I h
  refine wpAny_If (thn (hc pins s σ H _ I h) fun d s1 hQ' => ?_)
  obtain ⟨H1, I1, q1⟩ := hQ'
  cases d with
  | true => exact ha pins s1 σ H1 D I1 q1
  | false => exact hb pins s1 σ H1 D I1 q1
end
abbrev TG := V → St → Hp → (St → Hp → Prop) → Prop
abbrev TGs := List V → St → Hp → (St → Hp → Prop) → Prop
def PG (X : Cx) (target : Expr) (t : TG) : Prop :=
  ∀ (pins : List (Addr × Obj)) (s : Shared) (σ : St) (H : Hp) (v : V) (u : Value) (Q : St → Hp → Prop), Inv X pins σ H s → RelV v u → t v σ H Q →
    wpAny (model X.prog X.w) X.A (assign target X.env u) (fun _ s' => ∃ σ' H', Inv X pins σ' H' s' ∧ Q σ' H') X.xe s
def PGs (X : Cx) (ts : List Expr) (t : TGs) : Prop :=
  ∀ (pins : List (Addr × Obj)) (s : Shared) (σ : St) (H : Hp) (vs : List V) (us : List Value) (Q : St → Hp → Prop), Inv X pins σ H s → Vals vs us → t vs σ H Q →
    wpAny (model X.prog X.w) X.A (assignInOrder ((assignEach ts X.env).map (·.2)) us) (fun _ s' => ∃ σ' H', Inv X pins σ' H' s' ∧ Q σ' H') X.xe s
section
variable {X : Cx} {pos : Pos}
def gName (i : Nat) : TG := fun v σ H Q => Q (σ.set i (some v)) H
theorem pg_name {i : Nat} {x : Str} (hN : X.N.Nodup) (hi : X.N[i]? = some x) (hx : Loc X.env.scope x) (hf : X.fn x = true ∨ X.env.scope.names.lookup x = some .local := by first | exact .inl rfl | exact .inr rfl | assumption) : PG X (.Name x pos) (gName i) := by
  intro pins s σ H v u Q I r h
  exact wpAny_assign_Name (store_ok I hN hi hx r (fun s' I' => ⟨_, H, I', h⟩) hf)
def gNil : TGs := fun vs σ H Q => vs = [] ∧ Q σ H
def gCons (t : TG) (u : TGs) : TGs := fun vs σ H Q => ∃ v r, vs = v :: r ∧ t v σ H fun σ' H' => u r σ' H' Q
theorem pgs_nil : PGs X [] gNil := by
  intro pins s σ H vs us Q I r h
  obtain ⟨e, h⟩ := h
  subst e
  cases r
  exact assignInOrder_nil ⟨σ, H, I, h⟩
theorem pgs_cons {e : Expr} {es : List Expr} {t : TG} {u : TGs} (h1 : PG X e t) (h2 : PGs X es u)
    (hs : (assignEach (e :: es) X.env).map (·.2) = assign e X.env :: (assignEach es X.env).map (·.2) := by rfl) : PGs X (e :: es) (gCons t u) := by
  intro pins s σ H vs us Q I r h
  obtain ⟨v, vr, e1, h⟩ := h
  subst e1
  cases r with
  | cons r rr =>
    rw [hs]
    refine assignInOrder_cons (thn (h1 pins s σ H _ _ _ I r h) fun _ s1 hQ' => ?_)
    obtain ⟨σ1, H1, I1, q1⟩ := hQ'
    exact h2 pins s1 σ1 H1 _ _ Q I1 rr q1
def gTup (K : PySem.W.Frag) (n : Nat) (t : TGs) : TG := fun v σ H Q => ∃ a xs, v = .ref a ∧ SqT K H a xs ∧ xs.length = n ∧ t xs σ H Q
theorem pg_tup {es : List Expr} {k : Nat} {t : TGs} {n : Nat} (hc : X.calm = true) (h : PGs X es t)
    (hn : (assignEach es X.env).length = n := by rfl) (hst : (assignEach es X.env).findIdx? (·.1) = none := by rfl) : PG X (.Tuple es k pos) (gTup X.K n t) := by
  intro pins s σ H v u Q I r hw
  obtain ⟨a, xs, e1, hq, hl, hw⟩ := hw
  subst e1
  cases r
  obtain ⟨its, rv, ht, hz⟩ := I.tuple hq
  refine assign_Tuple_tuple (I.ok.hd hc) ht (by simp [hn, ← hl, rv.length]) hst fun h' hx => ?_
  have I1 : Inv X pins σ H { s with heap := h' } := I.kept (t' := s.toks) fun b o e => hx b o (Nat.ne_of_lt (Heap.lt_size e)) e
  exact h pins _ σ H xs _ Q I1 (by simpa using rv) hw
def tAsg (te : TE) (g : TG) : TS := fun D σ H => te σ H fun x H1 => g x σ H1 D.nx
theorem ps_asg {tg e : Expr} {te : TE} {g : TG} (he : PE X e te) (hg : PG X tg g) (hs : swapsWithSole [tg] e pos.line X.env = pure false := by rfl) (hw : swappedStores [tg] e X.env = pure none := by rfl)
    (h1 : (assignEach [tg] X.env).map (·.2) = [assign tg X.env] := by rfl) : PS X (.Assign [tg] e pos) (tAsg te g) := by
  intro pins s σ H D I h
  refine wpAny_Assign_stores (thn (he pins s σ H _ I h) fun v s1 hQ' => ?_) hs hw
  obtain ⟨x, H1, I1, r1, q1⟩ := hQ'
  rw [h1]
  exact thn (hg pins s1 σ H1 x v _ I1 r1 q1) fun _ s2 q => q
theorem ps_set {i : Nat} {x : Str} {e : Expr} {te : TE} {pos' : Pos} (hN : X.N.Nodup) (hi : X.N[i]? = some x) (hx : Loc X.env.scope x) (he : PE X e te) (hs : swapsWith e (some (.Name x pos')) pos.line X.env = pure false := by rfl) (hf : X.fn x = true ∨ X.env.scope.names.lookup x = some .local := by first | exact .inl rfl | exact .inr rfl | assumption) :
    PS X (.Assign [.Name x pos'] e pos) (tAsg te (gName i)) := by
  intro pins s σ H D I h
  refine wpAny_Assign_Name (thn (he pins s σ H _ I h) fun v s1 hQ' => ?_) hs
  obtain ⟨y, H1, I1, r1, q1⟩ := hQ'
  exact store_ok I1 hN hi hx r1 (fun s2 I2 => ⟨_, H1, I2, q1⟩) hf
def tPar (i j : Nat) (ta : TA) : TS := fun D σ H => ta σ H fun vs H1 => ∃ v w, vs = [v, w] ∧ D.nx ((σ.set i (some v)).set j (some w)) H1
theorem ps_par {i j : Nat} {x y : Str} {a b : Expr} {ta : TA} {px py pt : Pos} {kt k2 pt2} (hc : X.calm = true) (hN : X.N.Nodup) (hi : X.N[i]? = some x) (hj : X.N[j]? = some y) (hij : i ≠ j)
    (hx : X.env.scope.names.lookup x = some .local) (hy : X.env.scope.names.lookup y = some .local) (ha : PA X [a, b] ta)
    (hw : swappedStores [.Tuple [.Name x px, .Name y py] kt pt] (.Tuple [a, b] k2 pt2) X.env = pure (some [x, y]))
    (hs : swapsWithSole [.Tuple [.Name x px, .Name y py] kt pt] (.Tuple [a, b] k2 pt2) pos.line X.env = pure false := by rfl) :
    PS X (.Assign [.Tuple [.Name x px, .Name y py] kt pt] (.Tuple [a, b] k2 pt2) pos) (tPar i j ta) := by
  intro pins s σ H D I h
  rw [exec_Assign_arm]
  refine wpAny_bind (wpAny_standAt ?_)
  rw [hs]
  refine wpAny_bind (wpAny_pure ?_)
  rw [if_neg (by decide)]
  refine wpAny_bind (Tuple_ (thn (ha _ pins s σ H _ I h) fun us s1 hQ' => ?_))
  obtain ⟨vs, H1, I1, r1, q1⟩ := hQ'
  obtain ⟨v, w, e1, q1⟩ := q1
  subst e1
  obtain ⟨u1, u2, rfl, rv, rw'⟩ : ∃ u1 u2, us = [u1, u2] ∧ RelV v u1 ∧ RelV w u2 := by
    cases r1 with
    | cons p q =>
      cases q with
      | cons p' q' =>
        cases q'
        exact ⟨_, _, rfl, p, p'⟩
  refine wpAny_newObj_type ?_ (by show 2 ≤ sizeLine; decide)
  have I2 : Inv X pins σ H1 { s1 with heap := s1.heap.push { cls := .type "tuple", data := .seq [u1, u2].toArray } } := I1.kept (t' := s1.toks) fun b o e => Heap.get?_push_of_some _ e
  rw [hw]
  refine wpAny_bind (wpAny_pure ?_)
  show wpAny (model X.prog X.w) X.A (do rule "assign.swapped-stores"; let items ← unpackItems (.ref s1.heap.objs.size) 2 none; assignInOrder [fun v => bindName X.env y v, fun v => bindName X.env x v] items.reverse; pure Flow.next) _ _ _
  refine wpAny_bind (wpAny_rule (wpAny_bind (unpackItems_tuple (items := #[u1, u2]) (I.ok.hd hc) (IsTup.new s1.heap _) fun h' hx' => ?_)))
  have I3 := I2.kept (h' := h') (t' := s1.toks) fun b o e => hx' b o (Nat.ne_of_lt (Heap.lt_size e)) e
  show wpAny _ _ (assignInOrder [fun v => bindName X.env y v, fun v => bindName X.env x v] [u2, u1] >>= fun _ => pure Flow.next) _ _ _
  refine wpAny_bind (assignInOrder_cons (wpAny_bindName (store_ok I3 hN hj (.inl hy) rw' (fun s2 I4 => ?_) (.inr hy))))
  refine assignInOrder_cons (wpAny_bindName (store_ok I4 hN hi (.inl hx) rv (fun s3 I5 => assignInOrder_nil (wpAny_pure ?_)) (.inr hx)))
  rw [List.set_comm _ _ (Ne.symm hij)] at I5
  exact ⟨_, H1, I5, q1⟩
end
section
variable {X : Cx} {pos : Pos}
def tWhile (c : TT) (tb : TS) : TS := fun D σ H => ∃ W : Nat → St → Hp → Prop, (∃ m, W m σ H) ∧ ∀ m σ H, W m σ H →
  c σ H fun b H1 => if b = true then ∃ N : St → Hp → Prop, (∀ σ' H', N σ' H' → ∃ m', m' < m ∧ W m' σ' H') ∧ tb { D with nx := N, ct := N, bk := D.nx } σ H1 else D.nx σ H1
theorem ps_while {c : Expr} {body : List Stmt} {tc : TT} {tb : TS} (hp : PassesOwn (model X.prog X.w) X.A X.env X.xe) (hc : PT X c tc) (hb : PSs X body tb) : PS X (.While c body [] pos) (tWhile tc tb) := by
  intro pins s σ H D I h
  obtain ⟨W, ⟨m0, w0⟩, turn⟩ := h
  refine wpAny_While (codeAny_whileLoop (fun n s' => ∃ σ' H', Inv X pins σ' H' s' ∧ W n σ' H') ?_ m0 ⟨σ, H, I, w0⟩)
  rintro n s1 ⟨σ1, H1, I1, w1⟩
  refine wpAny_passesOwn hp (thn (hc pins s1 σ1 H1 _ I1 (turn n σ1 H1 w1)) fun b s2 hQ' => ?_)
  obtain ⟨H2, I2, q2⟩ := hQ'
  cases b with
  | true =>
    obtain ⟨N, hN, q2⟩ := q2
    rw [if_pos rfl]
    refine wpAny_passesOwn hp (thn (hb pins s2 σ1 H2 _ I2 q2) fun f s3 q3 => ?_)
    cases f with
    | next =>
      obtain ⟨σ3, H3, I3, n3⟩ := q3
      obtain ⟨m', hm, w3⟩ := hN σ3 H3 n3
      exact ⟨m', hm, σ3, H3, I3, w3⟩
    | cont =>
      obtain ⟨σ3, H3, I3, n3⟩ := q3
      obtain ⟨m', hm, w3⟩ := hN σ3 H3 n3
      exact ⟨m', hm, σ3, H3, I3, w3⟩
    | brk => exact q3
    | ret v => exact q3
  | false =>
    rw [if_neg Bool.false_ne_true]
    exact wpAny_execs_nil ⟨σ1, H2, I2, q2⟩
end
structure It where
  go : Nat → Hp → Prop
  yld : Nat → Hp → V → Hp → Prop
  stop : Nat → Hp → Prop
def FpOk (X : Cx) (pins : List (Addr × Obj)) (H : Hp) (b : Addr) : Prop :=
  H b = none ∧ b ≠ X.env.locals ∧ b ∉ X.fs ∧ (b ∈ X.ex ∨ X.s₀.heap.objs.size ≤ b) ∧ (∀ x c, X.env.cells.lookup x = some c → c ≠ b) ∧ ∀ p ∈ X.pn ++ pins, p.1 ≠ b
theorem Inv.fpOk {X : Cx} {pins : List (Addr × Obj)} {σ : St} {H H' : Hp} {s : Shared} {b : Addr} (I : Inv X pins σ H s) (hb : s.heap.objs.size ≤ b) (hn : H' b = none) : FpOk X pins H' b := by
  refine ⟨hn, Nat.ne_of_gt (Nat.lt_of_lt_of_le I.lt hb), I.nofs hb, .inr (Nat.le_trans I.sz hb), fun x c e z => ?_, fun p hp z => ?_⟩
  · obtain ⟨v, q⟩ := I.cell x c e
    exact absurd (Nat.lt_of_lt_of_le q.lt (by rw [z]; exact hb)) (Nat.lt_irrefl _)
  · exact absurd (Nat.lt_of_lt_of_le (Heap.lt_size (I.pin p hp).1) (by rw [z]; exact hb)) (Nat.lt_irrefl _)
structure Turn (P : Program) (w : World) (K : PySem.W.Frag) (tg : Expr) (J : It) (fp : List Addr) (it : Addr) (tn : Nat → Heap → Prop) : Prop where
  mem : it ∈ fp
  obj : ∀ i h, tn i h → ∀ b ∈ fp, ∃ o, h.get? b = some o ∧ ∀ v, o.data ≠ .cell v
  keep : ∀ i h h', tn i h → (∀ b ∈ fp, ∀ o, h.get? b = some o → h'.get? b = some o) → tn i h'
  item : ∀ (X : Cx), X.prog = P → X.w = w → X.K = K → X.calm = true → ∀ (i : Nat) (pins : List (Addr × Obj)) (s : Shared) (σ : St) (H : Hp) (E : Value → Shared → Prop), Inv X pins σ H s → (∀ b ∈ fp, FpOk X pins H b) → tn i s.heap → J.go i H →
    wpAny (model P w) X.A (pyNext (.ref it)) (fun r s1 => ∃ u, r = some u ∧
      wpAny (model P w) X.A (letOwnedTupleGo tg (.ref it) u) (fun _ s2 => ∃ x H', Inv X pins σ H' s2 ∧ RelV x u ∧ J.yld i H x H' ∧ tn (i + 1) s2.heap ∧ ∀ b ∈ fp, H' b = none) E s1) E s
  done : ∀ (X : Cx), X.prog = P → X.w = w → X.K = K → X.calm = true → ∀ (i : Nat) (pins : List (Addr × Obj)) (s : Shared) (σ : St) (H : Hp) (E : Value → Shared → Prop), Inv X pins σ H s → (∀ b ∈ fp, FpOk X pins H b) → tn i s.heap → J.stop i H →
    wpAny (model P w) X.A (pyNext (.ref it)) (fun r s1 => r = none ∧ Inv X pins σ H s1) E s
  self : ∀ (A : Around) (i : Nat) (s : Shared) (Q : Value → Shared → Prop) (E : Value → Shared → Prop), tn i s.heap → Q (.ref it) s → wpAny (model P w) A (pyIter (.ref it)) Q E s
abbrev TI := St → Hp → (It → Hp → Prop) → Prop
def PIE (X : Cx) (pins : List (Addr × Obj)) (σ : St) (tg : Expr) (R : It → Hp → Prop) (itv : Value) (s2 : Shared) : Prop :=
  ∃ (it : Addr) (fp : List Addr) (tn : Nat → Heap → Prop) (J : It) (H' : Hp), itv = .ref it ∧ Inv X pins σ H' s2 ∧ Turn X.prog X.w X.K tg J fp it tn ∧ tn 0 s2.heap ∧ (∀ b ∈ fp, FpOk X pins H' b) ∧ R J H'
def PI (X : Cx) (tg iter : Expr) (wi : TI) : Prop :=
  ∀ (pins : List (Addr × Obj)) (s : Shared) (σ : St) (H : Hp) (R : It → Hp → Prop), Inv X pins σ H s → wi σ H R →
    wpAny (model X.prog X.w) X.A (eval iter X.env) (fun v s1 => wpAny (model X.prog X.w) X.A (pyIter v) (PIE X pins σ tg R) X.xe s1) X.xe s
theorem go_of {M : Model} {A : Around} {E : Value → Shared → Prop} {s : Shared} {tg : Expr} {it : Addr} {u : Value} {o : Obj} {n : String} {vs : Array Value} {Q : Unit → Shared → Prop} (ho : s.heap.get? it = some o) (hc : o.cls = .type n) (hd : o.data = .fields vs)
    (hn : ["enumerate", "zip", "dict_itemiterator", "dict_reverseitemiterator", "odict_iterator", "itertools.zip_longest", "itertools.pairwise"].contains n = false) (hQ : Q () s) : wpAny M A (letOwnedTupleGo tg (.ref it) u) Q E s := by
  unfold letOwnedTupleGo
  cases tg <;> first
    | exact wpAny_pure hQ
    | (cases u <;> first
        | exact wpAny_pure hQ
        | (refine wpAny_bind (wpAny_load ho ?_)
           rw [hc, hd]
           show wpAny M A (if (["enumerate", "zip", "dict_itemiterator", "dict_reverseitemiterator", "odict_iterator", "itertools.zip_longest", "itertools.pairwise"].contains n && vs[0]? == some (rawInt _)) = true then _ else _) Q E s
           rw [if_neg (by intro h; rw [hn, Bool.false_and] at h; cases h)]
           exact wpAny_pure hQ))
def Itl (K : PySem.W.Frag) (a : Addr) : It :=
  ⟨fun i H => ∃ xs x, SqL K H a xs ∧ xs[i]? = some x, fun i H x H' => H' = H ∧ ∀ xs, SqL K H a xs → xs[i]? = some x, fun i H => ∃ xs, SqL K H a xs ∧ xs.length ≤ i⟩
def Itr (lo : Int) (n : Nat) : It := ⟨fun i _ => i < n, fun i H x H' => H' = H ∧ x = .int (lo + i), fun i _ => n ≤ i⟩
theorem turn_list {P : Program} {w : World} {K : PySem.W.Frag} {tg : Expr} (a it : Addr) : Turn P w K tg (Itl K a) [it] it (fun i h => h.IsListIter it a i) where
  mem := by simp
  obj := fun i h st b hb => by
    have e : b = it := by simpa using hb
    subst e
    obtain ⟨o, e, c, d⟩ := st
    exact ⟨o, e, fun v z => by rw [d] at z; cases z⟩
  keep := fun i h h' st k => st.at fun o e => k it (by simp) o e
  item := by
    intro X hP hw hK hc i pins s σ H E I hf st hg
    subst hP hw hK
    obtain ⟨xs, x, hq, hx⟩ := hg
    obtain ⟨its, rv, p, hz⟩ := I.list hq
    obtain ⟨u, hu, ru⟩ := rv.get hx
    obtain ⟨f0, f1, f2, f3, f4, f5⟩ := hf it (by simp)
    refine wpAny_pyNext_list_item st p.isList (x := u) (by simpa using hu) fun h' st' sb => ?_
    have I1 : Inv X pins σ H { s with heap := h' } := I.turned (t' := s.toks) (fun b o hb e => (sb.2 b hb).trans e) f0 f1 f3 f4 f5
    obtain ⟨o, e, c, d⟩ := id st'
    exact ⟨u, rfl, go_of (s := { s with heap := h' }) e c d (by decide) ⟨x, H, I1, ru, ⟨rfl, fun ys hy => by rw [I.list_inj hy hq]; exact hx⟩, st', fun b hb => (hf b hb).1⟩⟩
  done := by
    intro X hP hw hK hc i pins s σ H E I hf st hg
    subst hP hw hK
    obtain ⟨xs, hq, hx⟩ := hg
    obtain ⟨its, rv, p, hz⟩ := I.list hq
    obtain ⟨f0, f1, f2, f3, f4, f5⟩ := hf it (by simp)
    have hl := rv.length
    exact wpAny_pyNext_list_end (I.ok.hd hc) st p.isList (by simp; (first|lia|omega)) fun h' eb => ⟨rfl, I.turned (t' := s.toks) (fun b o hb e => eb b o hb e) f0 f1 f3 f4 f5⟩
  self := fun _ _ _ _ _ st h => wpAny_pyIter_listiter st h
theorem turn_range {P : Program} {w : World} {K : PySem.W.Frag} {tg : Expr} (it : Addr) (lo : Int) (n : Nat) : Turn P w K tg (Itr lo n) [it] it (fun i h => IsRangeIter h it (lo + (i : Nat) * 1) ((n : Int) - (i : Nat)) 1) where
  mem := by simp
  obj := fun i h st b hb => by
    have e : b = it := by simpa using hb
    subst e
    exact ⟨_, st, fun v z => by
      have z' : Data.fields _ = Data.cell v := z
      cases z'⟩
  keep := fun i h h' st k => k it (by simp) _ st
  item := by
    intro X hP hw hK hc i pins s σ H E I hf st hg
    subst hP hw hK
    obtain ⟨f0, f1, f2, f3, f4, f5⟩ := hf it (by simp)
    have W := Walks.range (prog := X.prog) (w := X.w) (I.ok.hd hc) it lo 1 n
    refine W.item i s _ _ hg st fun v h' tk hv st' kk => ?_
    obtain ⟨t, rfl⟩ := hv
    have I1 : Inv X pins σ H { s with heap := h', toks := tk } := I.turned (fun b o hb e => kk b o (by simpa using hb) e) f0 f1 f3 f4 f5
    refine ⟨_, rfl, go_of (s := { s with heap := h', toks := tk }) (n := "range_iterator") st' rfl rfl (by decide) ⟨.int (lo + i), H, I1, ⟨t, ?_⟩, ⟨rfl, rfl⟩, st', fun b hb => (hf b hb).1⟩⟩
    rw [Int.mul_one]
  done := by
    intro X hP hw hK hc i pins s σ H E I hf st hg
    subst hP hw hK
    obtain ⟨f0, f1, f2, f3, f4, f5⟩ := hf it (by simp)
    exact wpAny_pyNext_range_end (I.ok.hd hc) st (by have : n ≤ i := hg; (first|lia|omega)) fun h' eb => ⟨rfl, I.turned (t' := s.toks) (fun b o hb e => eb b o hb e) f0 f1 f3 f4 f5⟩
  self := fun _ _ _ _ _ st h => wpAny_pyIter_rangeiter st h
end L2
namespace L2
open PySem PySem.Spec PyProof.Rows
section
variable {X : Cx} {tg : Expr}
def iList (K : PySem.W.Frag) (tl : TE) : TI := fun σ H R => tl σ H fun x H1 => ∃ a, x = .ref a ∧ (∃ xs, SqL K H1 a xs) ∧ R (Itl K a) H1
theorem pi_list {l : Expr} {tl : TE} (hl : PE X l tl) : PI X tg l (iList X.K tl) := by
  intro pins s σ H R I h
  refine thn (hl pins s σ H _ I h) fun v s1 hQ' => ?_
  obtain ⟨x, H1, I1, r1, q1⟩ := hQ'
  obtain ⟨a, e, ⟨xs, hq⟩, q⟩ := q1
  subst e
  cases r1
  obtain ⟨its, rv, p, hz⟩ := I1.list hq
  refine wpAny_pyIter_list p.isList ?_
  refine ⟨s1.heap.objs.size, [s1.heap.objs.size], _, _, H1, rfl, I1.kept (t' := s1.toks) fun b o e => Heap.get?_push_of_some _ e, turn_list a _, ⟨_, Heap.get?_push_size _ rfl, rfl, rfl⟩, fun b hb => ?_, q⟩
  have e : b = s1.heap.objs.size := by simpa using hb
  subst e
  exact I1.fpOk (Nat.le_refl _) (I1.hok.fresh (Nat.le_refl _))
theorem range_it {pins : List (Addr × Obj)} {σ : St} {H : Hp} {s : Shared} {R : It → Hp → Prop} {E : Value → Shared → Prop} {lo hi : Int} {t u v : Tok} {tk : Nat} (I : Inv X pins σ H s) (h1 : -(2 ^ 62) ≤ lo) (h2 : lo < 2 ^ 62) (h3 : -(2 ^ 62) ≤ hi) (h4 : hi < 2 ^ 62)
    (q : R (Itr lo (hi - lo).toNat) H) : wpAny (model X.prog X.w) X.A (pyIter (.ref s.heap.objs.size)) (PIE X pins σ tg R) E { s with heap := s.heap.push { cls := .type "range", data := .fields #[.int lo t, .int hi u, .int 1 v] }, toks := tk } := by
  refine wpAny_pyIter_range (IsRange.new ..) (small_one h1 h2 h3 h4) ?_
  have I1 : Inv X pins σ H { s with heap := s.heap.push { cls := .type "range", data := .fields #[.int lo t, .int hi u, .int 1 v] }, toks := tk } := I.kept fun b o e => Heap.get?_push_of_some _ e
  refine ⟨(s.heap.push { cls := .type "range", data := .fields #[.int lo t, .int hi u, .int 1 v] }).objs.size, [(s.heap.push { cls := .type "range", data := .fields #[.int lo t, .int hi u, .int 1 v] }).objs.size], _, _, H, rfl,
    I1.kept (t' := tk) fun b o e => Heap.get?_push_of_some _ e, turn_range _ lo (hi - lo).toNat, ?_, fun b hb => ?_, q⟩
  · have e1 : lo + ((0 : Nat) : Int) * 1 = lo := by simp
    have e2 : (((hi - lo).toNat : Nat) : Int) - ((0 : Nat) : Int) = Builtin.Range.rangeSize lo hi 1 := by rw [rangeSize_one]; split <;> (first|lia|omega)
    show IsRangeIter _ _ (lo + ((0 : Nat) : Int) * 1) ((((hi - lo).toNat : Nat) : Int) - ((0 : Nat) : Int)) 1
    rw [e1, e2]
    exact Heap.get?_push_size _ rfl
  · have e : b = (s.heap.push { cls := .type "range", data := .fields #[.int lo t, .int hi u, .int 1 v] }).objs.size := by simpa using hb
    subst e
    exact I1.fpOk (Nat.le_refl _) (I1.hok.fresh (Nat.le_refl _))
def iRng1 (ta : TA) : TI := fun σ H R => ta σ H fun vs H1 => ∃ j : Int, vs = [.int j] ∧ -(2 ^ 62) ≤ j ∧ j < 2 ^ 62 ∧ R (Itr 0 j.toNat) H1
def iRng2 (ta : TA) : TI := fun σ H R => ta σ H fun vs H1 => ∃ i j : Int, vs = [.int i, .int j] ∧ (-(2 ^ 62) ≤ i ∧ i < 2 ^ 62 ∧ -(2 ^ 62) ≤ j ∧ j < 2 ^ 62) ∧ R (Itr i (j - i).toNat) H1
theorem pi_range1 {a : Expr} {ta : TA} {p pos : Pos} (hg : Gl X "range") (hm : X.mg "range" = none) (ha : PA X [a] ta) (hs : starEach [a] X.env = [(false, eval a X.env)] := by rfl) : PI X tg (.Call (.Name "range" p) [a] [] pos) (iRng1 ta) := by
  intro pins s σ H R I h
  refine Call_ (ld_blt I hg hm boot_range (PyProof.Rows.callWith_type1 (thn (ha pos pins s σ H _ I h) fun us s1 hQ' => ?_) hs rfl))
  obtain ⟨vs, H1, I1, r1, q1⟩ := hQ'
  obtain ⟨j, e, q1, q2, q⟩ := q1
  subst e
  cases r1 with
  | cons r rr =>
    cases rr
    obtain ⟨t, rfl⟩ := r
    exact call_range_1 (range_it I1 (by (first|lia|omega)) (by (first|lia|omega)) q1 q2 (by simpa using q))
theorem pi_range2 {a b : Expr} {ta : TA} {p pos : Pos} (hg : Gl X "range") (hm : X.mg "range" = none) (ha : PA X [a, b] ta) (hs : starEach [a, b] X.env = [(false, eval a X.env), (false, eval b X.env)] := by rfl) (hs2 : starEach [b] X.env = [(false, eval b X.env)] := by rfl) :
    PI X tg (.Call (.Name "range" p) [a, b] [] pos) (iRng2 ta) := by
  intro pins s σ H R I h
  refine Call_ (ld_blt I hg hm boot_range (PyProof.Rows.callWith_type1 (thn (ha pos pins s σ H _ I h) fun us s1 hQ' => ?_) (by rw [hs, hs2]) (by rw [hs2]; rfl)))
  obtain ⟨vs, H1, I1, r1, q1⟩ := hQ'
  obtain ⟨i, j, e, ⟨q1, q2, q3, q4⟩, q⟩ := q1
  subst e
  cases r1 with
  | cons r rr =>
    cases rr with
    | cons r' rr =>
      cases rr
      obtain ⟨t, rfl⟩ := r
      obtain ⟨t', rfl⟩ := r'
      exact call_range_2 (range_it I1 q1 q2 q3 q4 q)
def tFor (wi : TI) (g : TG) (tb : TS) : TS := fun D σ H => wi σ H fun J H1 => ∃ W : Nat → Nat → St → Hp → Prop, (∃ m, W 0 m σ H1) ∧ ∀ i m σ H, W i m σ H →
  (J.stop i H ∧ D.nx σ H) ∨ (J.go i H ∧ ∃ N : St → Hp → Prop, (∀ σ' H', N σ' H' → ∃ m', m' < m ∧ W (i + 1) m' σ' H') ∧ ∀ x H', J.yld i H x H' → g x σ H' fun σ2 H2 => tb { D with nx := N, ct := N, bk := D.nx } σ2 H2)
def pinsAt (fp : List Addr) (h : Heap) : List (Addr × Obj) := fp.filterMap fun b => (h.get? b).map fun o => (b, o)
theorem mem_pinsAt {fp : List Addr} {h : Heap} {b : Addr} {o : Obj} (hb : b ∈ fp) (e : h.get? b = some o) : (b, o) ∈ pinsAt fp h := List.mem_filterMap.mpr ⟨b, hb, by rw [e]; rfl⟩
theorem of_pinsAt {fp : List Addr} {h : Heap} {p : Addr × Obj} (hp : p ∈ pinsAt fp h) : p.1 ∈ fp ∧ h.get? p.1 = some p.2 := by
  obtain ⟨b, hb, e⟩ := List.mem_filterMap.mp hp
  cases q : h.get? b with
  | none => rw [q] at e; cases e
  | some o =>
    rw [q] at e
    have e' : (b, o) = p := Option.some.inj e
    subst e'
    exact ⟨hb, q⟩
theorem Inv.pinned {pins : List (Addr × Obj)} {σ : St} {H : Hp} {s : Shared} {fp : List Addr} (I : Inv X pins σ H s) (hf : ∀ b ∈ fp, FpOk X pins H b) (ho : ∀ b ∈ fp, ∃ o, s.heap.get? b = some o ∧ ∀ v, o.data ≠ .cell v) : Inv X (pins ++ pinsAt fp s.heap) σ H s :=
  I.pins_of fun p hp => (List.mem_append.mp hp).elim (fun z => I.pin p (List.mem_append_right _ z)) fun z => by
    obtain ⟨hb, e⟩ := of_pinsAt z
    obtain ⟨f0, f1, f2, _⟩ := hf p.1 hb
    obtain ⟨o, e', d⟩ := ho p.1 hb
    rw [e] at e'; cases e'
    exact ⟨e, f0, f1, f2, d⟩
theorem Inv.unpinned {pins pl : List (Addr × Obj)} {σ : St} {H : Hp} {s : Shared} (I : Inv X (pins ++ pl) σ H s) : Inv X pins σ H s := I.pins_of fun p hp => I.pin p (List.mem_append_right _ (List.mem_append_left _ hp))
theorem ps_for {iter : Expr} {body : List Stmt} {wi : TI} {g : TG} {tb : TS} {pos : Pos} (hp : PassesOwn (model X.prog X.w) X.A X.env X.xe) (hc : X.calm = true) (hi : PI X tg iter wi) (hg : PG X tg g) (hb : PSs X body tb)
    (hs : ∀ x, foldedSetIterable iter X.env x = pure x := by intro _; rfl) : PS X (.For tg iter body [] pos) (tFor wi g tb) := by
  intro pins s σ H D I h
  refine wpAny_For (thn (hi pins s σ H _ I h) fun v s1 h1 => thn h1 fun itv s2 h2 => ?_) hs
  obtain ⟨it, fp, tn, J, H2, e, I2, T, st2, f2, W, ⟨m0, w0⟩, turn⟩ := h2
  subst e
  have stat : ∀ {H' : Hp}, (∀ b ∈ fp, H' b = none) → ∀ b ∈ fp, FpOk X pins H' b := fun hn b hb => ⟨hn b hb, (f2 b hb).2⟩
  refine codeAny_forLoop_any (fun n s' => ∃ i σ' H', Inv X pins σ' H' s' ∧ tn i s'.heap ∧ (∀ b ∈ fp, H' b = none) ∧ W i n σ' H') ?_ m0 ⟨0, σ, H2, I2, st2, fun b hb => (f2 b hb).1, w0⟩
  rintro n s3 ⟨i, σ3, H3, I3, st3, fr3, w3⟩
  rcases turn i n σ3 H3 w3 with ⟨stop, qn⟩ | ⟨go, N, hN, step⟩
  · refine wpAny_passesOwn hp (thn (T.done X rfl rfl rfl hc i pins s3 σ3 H3 X.xe I3 (stat fr3) st3 stop) fun r s4 hQ' => ?_)
    obtain ⟨hr, I4⟩ := hQ'
    subst hr
    exact wpAny_execs_nil ⟨σ3, H3, I4, qn⟩
  · refine wpAny_passesOwn hp (thn (T.item X rfl rfl rfl hc i pins s3 σ3 H3 X.xe I3 (stat fr3) st3 go) fun r s4 hQ' => ?_)
    obtain ⟨u, hr, h4⟩ := hQ'
    subst hr
    refine wpAny_passesOwn hp (thn h4 fun _ s5 hQ' => ?_)
    obtain ⟨x, H5, I5, r5, y5, st5, fr5⟩ := hQ'
    have I5' := I5.pinned (stat fr5) (T.obj _ _ st5)
    refine wpAny_passesOwn hp (thn (hg _ s5 σ3 H5 x u _ I5' r5 (step x H5 y5)) fun _ s6 hQ' => ?_)
    obtain ⟨σ6, H6, I6, q6⟩ := hQ'
    refine wpAny_passesOwn hp (thn (hb _ s6 σ6 H6 _ I6 q6) fun f s7 q7 => ?_)
    have again : ∀ {σ7 : St} {H7 : Hp}, Inv X (pins ++ pinsAt fp s5.heap) σ7 H7 s7 → N σ7 H7 → ∃ m, m < n ∧ ∃ i σ' H', Inv X pins σ' H' s7 ∧ tn i s7.heap ∧ (∀ b ∈ fp, H' b = none) ∧ W i m σ' H' := fun {σ7 H7} I7 n7 => by
      obtain ⟨m', hm, w7⟩ := hN σ7 H7 n7
      refine ⟨m', hm, i + 1, σ7, H7, I7.unpinned, T.keep _ _ _ st5 fun b hb o e => (I7.pin (b, o) (List.mem_append_right _ (List.mem_append_right _ (mem_pinsAt hb e)))).1, fun b hb => ?_, w7⟩
      obtain ⟨o, e, d⟩ := T.obj _ _ st5 b hb
      exact (I7.pin (b, o) (List.mem_append_right _ (List.mem_append_right _ (mem_pinsAt hb e)))).2.1
    cases f with
    | next => obtain ⟨σ7, H7, I7, n7⟩ := q7; exact again I7 n7
    | cont => obtain ⟨σ7, H7, I7, n7⟩ := q7; exact again I7 n7
    | brk => obtain ⟨σ7, H7, I7, q7⟩ := q7; exact ⟨σ7, H7, I7.unpinned, q7⟩
    | ret v => obtain ⟨x7, σ7, H7, I7, r7, q7⟩ := q7; exact ⟨x7, σ7, H7, I7.unpinned, r7, q7⟩
end
theorem for_list {K : PySem.W.Frag} {a : Addr} {xs : List V} {g : TG} {tb : TS} {D : Ends} {σ : St} {H : Hp} (Pv : Nat → St → Hp → Prop) (h0 : Pv 0 σ H) (hl : ∀ i σ H, i ≤ xs.length → Pv i σ H → SqL K H a xs)
    (hs : ∀ i x σ H, xs[i]? = some x → Pv i σ H → g x σ H fun σ2 H2 => tb { D with nx := Pv (i + 1), ct := Pv (i + 1), bk := D.nx } σ2 H2) (hd : ∀ σ H, Pv xs.length σ H → D.nx σ H) :
    ∃ W : Nat → Nat → St → Hp → Prop, (∃ m, W 0 m σ H) ∧ ∀ i m σ H, W i m σ H →
      ((Itl K a).stop i H ∧ D.nx σ H) ∨ ((Itl K a).go i H ∧ ∃ N : St → Hp → Prop, (∀ σ' H', N σ' H' → ∃ m', m' < m ∧ W (i + 1) m' σ' H') ∧ ∀ x H', (Itl K a).yld i H x H' → g x σ H' fun σ2 H2 => tb { D with nx := N, ct := N, bk := D.nx } σ2 H2) := by
  refine ⟨fun i m σ H => m = xs.length - i ∧ i ≤ xs.length ∧ Pv i σ H, ⟨xs.length, by simp, Nat.zero_le _, h0⟩, ?_⟩
  rintro i m σ H ⟨rfl, hi, p⟩
  have q := hl i σ H hi p
  by_cases hlt : i < xs.length
  · refine .inr ⟨⟨xs, xs[i], q, by simp [hlt]⟩, Pv (i + 1), fun σ' H' p' => ⟨xs.length - (i + 1), by (first|lia|omega), rfl, hlt, p'⟩, fun x H' y => ?_⟩
    obtain ⟨e, y⟩ := y
    subst e
    exact hs i x σ _ (y xs q) p
  · have e : i = xs.length := by (first|lia|omega)
    subst e
    exact .inl ⟨⟨xs, q, Nat.le_refl _⟩, hd σ H p⟩
theorem for_range {lo : Int} {n : Nat} {g : TG} {tb : TS} {D : Ends} {σ : St} {H : Hp} (Pv : Nat → St → Hp → Prop) (h0 : Pv 0 σ H)
    (hs : ∀ i σ H, i < n → Pv i σ H → g (.int (lo + i)) σ H fun σ2 H2 => tb { D with nx := Pv (i + 1), ct := Pv (i + 1), bk := D.nx } σ2 H2) (hd : ∀ σ H, Pv n σ H → D.nx σ H) :
    ∃ W : Nat → Nat → St → Hp → Prop, (∃ m, W 0 m σ H) ∧ ∀ i m σ H, W i m σ H →
      ((Itr lo n).stop i H ∧ D.nx σ H) ∨ ((Itr lo n).go i H ∧ ∃ N : St → Hp → Prop, (∀ σ' H', N σ' H' → ∃ m', m' < m ∧ W (i + 1) m' σ' H') ∧ ∀ x H', (Itr lo n).yld i H x H' → g x σ H' fun σ2 H2 => tb { D with nx := N, ct := N, bk := D.nx } σ2 H2) := by
  refine ⟨fun i m σ H => m = n - i ∧ i ≤ n ∧ Pv i σ H, ⟨n, by simp, Nat.zero_le _, h0⟩, ?_⟩
  rintro i m σ H ⟨rfl, hi, p⟩
  by_cases hlt : i < n
  · refine .inr ⟨hlt, Pv (i + 1), fun σ' H' p' => ⟨n - (i + 1), by (first|lia|omega), rfl, hlt, p'⟩, fun x H' y => ?_⟩
    obtain ⟨e, y⟩ := y
    subst e y
    exact hs i σ _ hlt p
  · have e : i = n := by (first|lia|omega)
    subst e
    exact .inl ⟨Nat.le_refl _, hd σ H p⟩
end L2
namespace L2
open PySem PySem.Spec PyProof.Rows
abbrev R2 := V → V → Hp → VK → Prop
def OpR (X : Cx) (f : Value → Value → Sem Value) (r : R2) : Prop :=
  ∀ (pins : List (Addr × Obj)) (s : Shared) (σ : St) (H : Hp) (x y : V) (v u : Value) (Q : VK), Inv X pins σ H s → RelV x v → RelV y u → r x y H Q →
    wpAny (model X.prog X.w) X.A (f v u) (EP X pins σ Q) X.xe s
def UnR (X : Cx) (f : Value → Sem Value) (r : V → Hp → VK → Prop) : Prop :=
  ∀ (pins : List (Addr × Obj)) (s : Shared) (σ : St) (H : Hp) (x : V) (v : Value) (Q : VK), Inv X pins σ H s → RelV x v → r x H Q →
    wpAny (model X.prog X.w) X.A (f v) (EP X pins σ Q) X.xe s
def CallR (X : Cx) (f : Value) (r : List V → Hp → VK → Prop) : Prop :=
  ∀ (pins : List (Addr × Obj)) (s : Shared) (σ : St) (H : Hp) (xs : List V) (us : List Value) (Q : VK), Inv X pins σ H s → Vals xs us → r xs H Q →
    wpAny (model X.prog X.w) X.A (call f us) (EP X pins σ Q) X.xe s
def tOp (r : R2) (ta tb : TE) : TE := fun σ H Q => ta σ H fun x H1 => tb σ H1 fun y H2 => r x y H2 Q
def tUn (r : V → Hp → VK → Prop) (ta : TE) : TE := fun σ H Q => ta σ H fun x H1 => r x H1 Q
def rI (C : Int → Int → Prop) (g : Int → Int → V) : R2 := fun x y H Q => ∃ i j, x = .int i ∧ y = .int j ∧ C i j ∧ Q (g i j) H
def rI0 (g : Int → Int → V) : R2 := fun x y H Q => ∃ i j, x = .int i ∧ y = .int j ∧ Q (g i j) H
def rU (g : Int → V) : V → Hp → VK → Prop := fun x H Q => ∃ i, x = .int i ∧ Q (g i) H
section
variable {X : Cx} {a b c : Expr} {ta tb tc : TE} {pos : Pos}
theorem binT (ha : PE X a ta) (hb : PE X b tb) {pins : List (Addr × Obj)} {s : Shared} {σ : St} {H : Hp} {R : V → V → Hp → Prop} (I : Inv X pins σ H s)
    (h : ta σ H fun x H1 => tb σ H1 fun y H2 => R x y H2) {Q : Value → Shared → Prop} {f : Value → Value → Sem Value}
    (hf : ∀ v u s2 x y H2, Inv X pins σ H2 s2 → RelV x v → RelV y u → R x y H2 → wpAny (model X.prog X.w) X.A (f v u) Q X.xe s2) :
    wpAny (model X.prog X.w) X.A (eval a X.env) (fun v s₁ => wpAny (model X.prog X.w) X.A (eval b X.env) (fun u s₂ => wpAny (model X.prog X.w) X.A (f v u) Q X.xe s₂) X.xe s₁) X.xe s := by
  refine thn (ha pins s σ H _ I h) fun v s1 hQ' => ?_
  obtain ⟨x, H1, I1, r1, q1⟩ := hQ'
  refine thn (hb pins s1 σ H1 _ I1 q1) fun u s2 hQ' => ?_
  obtain ⟨y, H2, I2, r2, q2⟩ := hQ'
  exact hf v u s2 x y H2 I2 r1 r2 q2
theorem pe_op {op : Operator} {r : R2} (ho : OpR X (binaryOp op) r) (ha : PE X a ta) (hb : PE X b tb) : PE X (.BinOp a op b pos) (tOp r ta tb) := by
  intro pins s σ H Q I h
  exact wpAny_BinOp (binT ha hb I h fun v u s2 x y H2 I2 rx ry q => ho pins s2 σ H2 x y v u Q I2 rx ry q)
theorem pe_un {op : UnaryOp} {r : V → Hp → VK → Prop} (ho : UnR X (unaryOp op) r) (ha : PE X a ta) : PE X (.UnaryOp op a pos) (tUn r ta) := by
  intro pins s σ H Q I h
  exact UnaryOp_ (thn (ha pins s σ H _ I h) fun v s1 ⟨x, H1, I1, r1, q1⟩ => ho pins s1 σ H1 x v Q I1 r1 q1)
theorem opI {f : Value → Value → Sem Value} {C : Int → Int → Prop} {g : Int → Int → Int}
    (rule : ∀ (i j : Int) (t u : Tok) (s : Shared) (Q : Value → Shared → Prop) (E : Value → Shared → Prop), C i j → Q (.int (g i j) s.toks) { s with toks := s.toks + 1 } → wpAny (model X.prog X.w) X.A (f (.int i t) (.int j u)) Q E s) :
    OpR X f (rI C fun i j => .int (g i j)) := by
  intro pins s σ H x y v u Q I rx ry h
  obtain ⟨i, j, rfl, rfl, hc, q⟩ := h
  obtain ⟨t, rfl⟩ := rx
  obtain ⟨t', rfl⟩ := ry
  exact rule i j t t' s _ _ hc ⟨.int (g i j), H, I.tok _, ⟨_, rfl⟩, q⟩
theorem opI0 {f : Value → Value → Sem Value} {g : Int → Int → Int}
    (rule : ∀ (i j : Int) (t u : Tok) (s : Shared) (Q : Value → Shared → Prop) (E : Value → Shared → Prop), Q (.int (g i j) s.toks) { s with toks := s.toks + 1 } → wpAny (model X.prog X.w) X.A (f (.int i t) (.int j u)) Q E s) :
    OpR X f (rI0 fun i j => .int (g i j)) := by
  intro pins s σ H x y v u Q I rx ry h
  obtain ⟨i, j, rfl, rfl, q⟩ := h
  obtain ⟨t, rfl⟩ := rx
  obtain ⟨t', rfl⟩ := ry
  exact rule i j t t' s _ _ ⟨.int (g i j), H, I.tok _, ⟨_, rfl⟩, q⟩
theorem opB0 {f : Value → Value → Sem Value} {g : Int → Int → Bool}
    (rule : ∀ (i j : Int) (t u : Tok) (s : Shared) (Q : Value → Shared → Prop) (E : Value → Shared → Prop), Q (.bool (g i j)) s → wpAny (model X.prog X.w) X.A (f (.int i t) (.int j u)) Q E s) :
    OpR X f (rI0 fun i j => .bl (g i j)) := by
  intro pins s σ H x y v u Q I rx ry h
  obtain ⟨i, j, rfl, rfl, q⟩ := h
  obtain ⟨t, rfl⟩ := rx
  obtain ⟨t', rfl⟩ := ry
  exact rule i j t t' s _ _ ⟨.bl (g i j), H, I, rfl, q⟩
def CPow (i j : Int) : Prop := 0 ≤ j ∧ j ≤ 1000000 ∧ i.natAbs < 2 ^ 64
theorem op_add : OpR X (binaryOp .Add) (rI0 fun i j => .int (i + j)) := opI0 fun _ _ _ _ _ _ _ q => add_int q
theorem op_sub : OpR X (binaryOp .Sub) (rI0 fun i j => .int (i - j)) := opI0 fun _ _ _ _ _ _ _ q => sub_int q
theorem op_mod : OpR X (binaryOp .Mod) (rI (fun _ j => 0 < j) fun i j => .int (i % j)) := opI fun i j _ _ _ _ _ hc q => by
  have h1 : (0 : Int) < j := hc
  exact mod_int' (by (first|lia|omega)) (by rw [Int.fmod_eq_emod_of_nonneg i (by (first|lia|omega))]; exact q)
theorem op_pow : OpR X (binaryOp .Pow) (rI CPow fun i j => .int (i ^ j.toNat)) := opI fun _ _ _ _ _ _ _ hc q => pow_int_small hc.1 hc.2.1 hc.2.2 q
theorem unI {f : Value → Sem Value} {g : Int → Int}
    (rule : ∀ (i : Int) (t : Tok) (s : Shared) (Q : Value → Shared → Prop) (E : Value → Shared → Prop), Q (.int (g i) s.toks) { s with toks := s.toks + 1 } → wpAny (model X.prog X.w) X.A (f (.int i t)) Q E s) :
    UnR X f (rU fun i => .int (g i)) := by
  intro pins s σ H x v Q I rx h
  obtain ⟨i, rfl, q⟩ := h
  obtain ⟨t, rfl⟩ := rx
  exact rule i t s _ _ ⟨.int (g i), H, I.tok _, ⟨_, rfl⟩, q⟩
theorem un_neg : UnR X (unaryOp .USub) (rU fun i => .int (-i)) := unI fun _ _ _ _ _ q => neg_int q
end
def scal : V → V → Bool
  | .non, .non => true | .non, .int _ => true | .int _, .non => true | .non, .bl _ => true | .bl _, .non => true | .non, .str _ => true | .str _, .non => true
  | .int _, .int _ => true | .bl _, .bl _ => true | .str _, .str _ => true | .byt _, .byt _ => true
  | .int _, .str _ => true | .str _, .int _ => true | .bl _, .str _ => true | .str _, .bl _ => true
  | _, _ => false
def rEq : R2 := fun x y H Q => scal x y = true ∧ Q (.bl (decide (x = y))) H
def rNe : R2 := fun x y H Q => scal x y = true ∧ Q (.bl (!decide (x = y))) H
theorem dec_int {i j : Int} : decide (V.int i = V.int j) = (i == j) := by
  rw [Bool.eq_iff_iff]
  simp
theorem dec_bl {i j : Bool} : decide (V.bl i = V.bl j) = (i == j) := by
  rw [Bool.eq_iff_iff]
  simp
theorem dec_str {i j : Str} : decide (V.str i = V.str j) = (i == j) := by
  rw [Bool.eq_iff_iff]
  simp
theorem dec_byt {i j : Array UInt8} : decide (V.byt i = V.byt j) = (i.toList == j.toList) := by
  rw [Bool.eq_iff_iff]
  cases i
  cases j
  simp
section
variable {X : Cx} {a b c : Expr} {ta tb tc : TE} {pos : Pos}
theorem fin_bl {pins : List (Addr × Obj)} {σ : St} {H : Hp} {s : Shared} {Q : VK} {k k' : Bool} (I : Inv X pins σ H s) (q : Q (.bl k) H) (e : k = k') : EP X pins σ Q (.bool k') s := by
  subst e
  exact ⟨.bl k, H, I, rfl, q⟩
theorem op_eq : OpR X (compareOp .Eq) rEq := by
  intro pins s σ H x y v u Q I rx ry h
  obtain ⟨hs, q⟩ := h
  cases x with
  | non =>
    cases rx
    cases y with
    | non => cases ry; exact PySem.EqNone.eq_none_none (fin_bl I q (by simp))
    | bl j => cases ry; exact PySem.EqNone.eq_none_bool (fin_bl I q (by simp))
    | int j => obtain ⟨t', rfl⟩ := ry; exact PySem.EqNone.eq_none_int (fin_bl I q (by simp))
    | str j => obtain ⟨t', rfl⟩ := ry; exact PySem.EqNone.eq_none_str (fin_bl I q (by simp))
    | _ => exact absurd (show false = true from hs) Bool.false_ne_true
  | bl i =>
    cases rx
    cases y with
    | non => cases ry; exact PySem.EqNone.eq_bool_none (fin_bl I q (by simp))
    | bl j => cases ry; exact eq_bool (fin_bl I q dec_bl)
    | str j => obtain ⟨t', rfl⟩ := ry; exact PySem.EqMixed.eq_bool_str (fin_bl I q (by simp))
    | _ => exact absurd (show false = true from hs) Bool.false_ne_true
  | int i =>
    obtain ⟨t, rfl⟩ := rx
    cases y with
    | non => cases ry; exact PySem.EqNone.eq_int_none (fin_bl I q (by simp))
    | int j => obtain ⟨t', rfl⟩ := ry; exact eq_int (fin_bl I q dec_int)
    | str j => obtain ⟨t', rfl⟩ := ry; exact PySem.EqMixed.eq_int_str (fin_bl I q (by simp))
    | _ => exact absurd (show false = true from hs) Bool.false_ne_true
  | str i =>
    obtain ⟨t, rfl⟩ := rx
    cases y with
    | non => cases ry; exact PySem.EqNone.eq_str_none (fin_bl I q (by simp))
    | bl j => cases ry; exact PySem.EqMixed.eq_str_bool (fin_bl I q (by simp))
    | int j => obtain ⟨t', rfl⟩ := ry; exact PySem.EqMixed.eq_str_int (fin_bl I q (by simp))
    | str j => obtain ⟨t', rfl⟩ := ry; exact eq_str (fin_bl I q dec_str)
    | _ => exact absurd (show false = true from hs) Bool.false_ne_true
  | byt i =>
    obtain ⟨t, rfl⟩ := rx
    cases y with
    | byt j => obtain ⟨t', rfl⟩ := ry; exact PySem.W.eq_bytes (fin_bl I q dec_byt)
    | _ => exact absurd (show false = true from hs) Bool.false_ne_true
  | _ => cases y <;> exact absurd (show false = true from hs) Bool.false_ne_true
theorem op_ne : OpR X (compareOp .NotEq) rNe := by
  intro pins s σ H x y v u Q I rx ry h
  obtain ⟨hs, q⟩ := h
  cases x with
  | non =>
    cases rx
    cases y with
    | non => cases ry; exact PySem.EqNone.ne_none_none (fin_bl I q (by simp))
    | bl j => cases ry; exact PySem.EqNone.ne_none_bool (fin_bl I q (by simp))
    | int j => obtain ⟨t', rfl⟩ := ry; exact PySem.EqNone.ne_none_int (fin_bl I q (by simp))
    | str j => obtain ⟨t', rfl⟩ := ry; exact PySem.EqNone.ne_none_str (fin_bl I q (by simp))
    | _ => exact absurd (show false = true from hs) Bool.false_ne_true
  | bl i =>
    cases rx
    cases y with
    | non => cases ry; exact PySem.EqNone.ne_bool_none (fin_bl I q (by simp))
    | bl j => cases ry; exact ne_bool (fin_bl I q (congrArg not dec_bl))
    | str j => obtain ⟨t', rfl⟩ := ry; exact PySem.EqMixed.ne_bool_str (fin_bl I q (by simp))
    | _ => exact absurd (show false = true from hs) Bool.false_ne_true
  | int i =>
    obtain ⟨t, rfl⟩ := rx
    cases y with
    | non => cases ry; exact PySem.EqNone.ne_int_none (fin_bl I q (by simp))
    | int j => obtain ⟨t', rfl⟩ := ry; exact ne_int (fin_bl I q (congrArg not dec_int))
    | str j => obtain ⟨t', rfl⟩ := ry; exact PySem.EqMixed.ne_int_str (fin_bl I q (by simp))
    | _ => exact absurd (show false = true from hs) Bool.false_ne_true
  | str i =>
    obtain ⟨t, rfl⟩ := rx
    cases y with
    | non => cases ry; exact PySem.EqNone.ne_str_none (fin_bl I q (by simp))
    | bl j => cases ry; exact PySem.EqMixed.ne_str_bool (fin_bl I q (by simp))
    | int j => obtain ⟨t', rfl⟩ := ry; exact PySem.EqMixed.ne_str_int (fin_bl I q (by simp))
    | str j => obtain ⟨t', rfl⟩ := ry; exact ne_str (fin_bl I q (congrArg not dec_str))
    | _ => exact absurd (show false = true from hs) Bool.false_ne_true
  | byt i =>
    obtain ⟨t, rfl⟩ := rx
    cases y with
    | byt j => obtain ⟨t', rfl⟩ := ry; exact PySem.W.ne_bytes (fin_bl I q (congrArg not dec_byt))
    | _ => exact absurd (show false = true from hs) Bool.false_ne_true
  | _ => cases y <;> exact absurd (show false = true from hs) Bool.false_ne_true
theorem op_lt : OpR X (compareOp .Lt) (rI0 fun i j => .bl (decide (i < j))) := opB0 fun _ _ _ _ _ _ _ q => lt_int q
theorem op_le : OpR X (compareOp .LtE) (rI0 fun i j => .bl (decide (i ≤ j))) := opB0 fun _ _ _ _ _ _ _ q => le_int q
theorem op_gt : OpR X (compareOp .Gt) (rI0 fun i j => .bl (decide (j < i))) := opB0 fun _ _ _ _ _ _ _ q => gt_int q
theorem op_ge : OpR X (compareOp .GtE) (rI0 fun i j => .bl (decide (j ≤ i))) := opB0 fun _ _ _ _ _ _ _ q => ge_int q
theorem op_isN : OpR X (compareOp .Is) (fun x y H Q => y = .non ∧ Q (.bl (decide (x = .non))) H) := by
  intro pins s σ H x y v u Q I rx ry h
  obtain ⟨rfl, q⟩ := h
  cases ry
  refine is_none_gen (fin_bl I q ?_)
  cases x <;> first
    | (cases rx; rfl)
    | (obtain ⟨t, rfl⟩ := rx; rfl)
theorem nomark (b : Expr) {op : CmpOp} (h : op ≠ .In := by decide) (h2 : op ≠ .NotIn := by decide) : behindInMarks op b = false := by
  have e1 : (op == CmpOp.In) = false := by cases op <;> first | rfl | exact absurd rfl h
  have e2 : (op == CmpOp.NotIn) = false := by cases op <;> first | rfl | exact absurd rfl h2
  cases b <;> simp [behindInMarks, e1, e2]
theorem pe_cmpR {op : CmpOp} {r : R2} (ho : OpR X (compareOp op) r) (ha : PE X a ta) (hb : PE X b tb) (hm : behindInMarks op b = false) : PE X (.Compare a [op] [b] pos) (tOp r ta tb) := by
  intro pins s σ H Q I h
  exact wpAny_Compare1 (binT ha hb I h fun v u s2 x y H2 I2 rx ry q => ho pins s2 σ H2 x y v u Q I2 rx ry q) hm
def tTest (t : TE) : TT := fun σ H Q => t σ H fun x H' => ∃ k, x = .bl k ∧ Q k H'
theorem pt_cmpR {op : CmpOp} {r : R2} (ho : OpR X (compareOp op) r) (ha : PE X a ta) (hb : PE X b tb) (hm : behindInMarks op b = false) : PT X (.Compare a [op] [b] pos) (tTest (tOp r ta tb)) := by
  intro pins s σ H Q I h
  refine wpAny_isTrue_Compare1 (thn (ha pins s σ H _ I h) fun v s1 ⟨x, H1, I1, r1, q1⟩ => thn (hb pins s1 σ H1 _ I1 q1) fun u s2 ⟨y, H2, I2, r2, q2⟩ =>
    thn (ho pins s2 σ H2 x y v u _ I2 r1 r2 q2) fun c s3 ⟨z, H3, I3, r3, k, e, q3⟩ => ?_) hm
  subst e
  cases r3
  exact wpAny_truthy_bool ⟨H3, I3, q3⟩
def tChain (r r' : R2) (ta tb tc : TE) : TE := fun σ H Q => ta σ H fun x H1 => tb σ H1 fun y H2 => r x y H2 fun z H3 => ∃ k, z = .bl k ∧
  (if k = true then tc σ H3 fun w' H4 => r' y w' H4 Q else Q (.bl false) H3)
theorem pe_chain {op op' : CmpOp} {r r' : R2} (ho : OpR X (compareOp op) r) (ho' : OpR X (compareOp op') r') (ha : PE X a ta) (hb : PE X b tb) (hc : PE X c tc)
    (hm : lastMarks [op, op'] [b, c] = false := by with_unfolding_all rfl) : PE X (.Compare a [op, op'] [b, c] pos) (tChain r r' ta tb tc) := by
  intro pins s σ H Q I h
  refine Compare_chain (thn (ha pins s σ H _ I h) fun v s1 ⟨x, H1, I1, r1, q1⟩ => chain_link (thn (hb pins s1 σ H1 _ I1 q1) fun u s2 ⟨y, H2, I2, r2, q2⟩ =>
    thn (ho pins s2 σ H2 x y v u _ I2 r1 r2 q2) fun d s3 ⟨z, H3, I3, r3, k, e, q3⟩ => ?_)) hm
  subst e
  cases r3
  refine wpAny_truthy_bool ?_
  cases k with
  | false => exact ite_ff ⟨.bl false, H3, I3, rfl, q3⟩
  | true => exact ite_tt (chain_last (thn (hc pins s3 σ H3 _ I3 q3) fun w' s4 ⟨z', H4, I4, r4, q4⟩ => ho' pins s4 σ H4 y z' u w' Q I4 r2 r4 q4))
theorem pt_chain {op op' : CmpOp} {r r' : R2} (ho : OpR X (compareOp op) r) (ho' : OpR X (compareOp op') r') (ha : PE X a ta) (hb : PE X b tb) (hc : PE X c tc)
    (hm : lastMarks [op, op'] [b, c] = false := by with_unfolding_all rfl) : PT X (.Compare a [op, op'] [b, c] pos) (tTest (tChain r r' ta tb tc)) := by
  intro pins s σ H Q I h
  refine isTrue_chain (thn (ha pins s σ H _ I h) fun v s1 ⟨x, H1, I1, r1, q1⟩ => test_link (thn (hb pins s1 σ H1 _ I1 q1) fun u s2 ⟨y, H2, I2, r2, q2⟩ =>
    thn (ho pins s2 σ H2 x y v u _ I2 r1 r2 q2) fun d s3 ⟨z, H3, I3, r3, k, e, q3⟩ => ?_)) hm
  subst e
  cases r3
  refine wpAny_truthy_bool ?_
  cases k with
  | false =>
    obtain ⟨k', e', q'⟩ := q3
    cases e'
    exact ite_ff ⟨H3, I3, q'⟩
  | true =>
    refine ite_tt (test_last (thn (hc pins s3 σ H3 _ I3 q3) fun w' s4 ⟨z', H4, I4, r4, q4⟩ => thn (ho' pins s4 σ H4 y z' u w' _ I4 r2 r4 q4) fun d' s5 hQ' => ?_))
    obtain ⟨z2, H5, I5, r5, k2, e2, q5⟩ := hQ'
    subst e2
    cases r5
    exact wpAny_truthy_bool ⟨H5, I5, q5⟩
def TruV (K : PySem.W.Frag) (x : V) (H : Hp) (k : Bool) : Prop :=
  match x with
  | .non => k = false
  | .bl b => k = b
  | .int i => k = (i != 0)
  | .str y => y.length ≤ sizeLine ∧ k = ((y.length : Int) != 0)
  | .byt y => y.size ≤ sizeLine ∧ k = ((y.size : Int) != 0)
  | .ref p => (∃ xs, SqL K H p xs ∧ k = !xs.isEmpty) ∨ (∃ xs, SqT K H p xs ∧ k = !xs.isEmpty) ∨ ∃ kvs, H p = some (.dK kvs) ∧ k = !kvs.isEmpty
  | _ => False
theorem line63 : (sizeLine : Nat) < 2 ^ 63 := by rw [sizeLine_eq]; decide
theorem vals1 {x : V} {us : List Value} (r : Vals [x] us) : ∃ u, us = [u] ∧ RelV x u := by
  cases r with
  | cons r1 r2 => cases r2; exact ⟨_, rfl, r1⟩
theorem vals2 {x y : V} {us : List Value} (r : Vals [x, y] us) : ∃ u w', us = [u, w'] ∧ RelV x u ∧ RelV y w' := by
  cases r with
  | cons r1 r2 =>
    cases r2 with
    | cons r3 r4 => cases r4; exact ⟨_, _, rfl, r1, r3⟩
theorem call_max2 (hc : X.calm = true) : CallR X (.builtin "max") (fun xs H Q => ∃ i j, xs = [.int i, .int j] ∧ Q (.int (if j > i then j else i)) H) := by
  intro pins s σ H xs us Q I r h
  obtain ⟨i, j, rfl, q⟩ := h
  obtain ⟨u, w', rfl, ⟨t, rfl⟩, ⟨t', rfl⟩⟩ := vals2 r
  refine max_two_ints (I.ok.hd hc) fun h' tk k => ⟨_, H, I.kept k, ?_, q⟩
  by_cases hj : j > i
  · rw [if_pos hj, if_pos hj]; exact ⟨_, rfl⟩
  · rw [if_neg hj, if_neg hj]; exact ⟨_, rfl⟩
theorem call_min2 (hc : X.calm = true) : CallR X (.builtin "min") (fun xs H Q => ∃ i j, xs = [.int i, .int j] ∧ Q (.int (if j < i then j else i)) H) := by
  intro pins s σ H xs us Q I r h
  obtain ⟨i, j, rfl, q⟩ := h
  obtain ⟨u, w', rfl, ⟨t, rfl⟩, ⟨t', rfl⟩⟩ := vals2 r
  refine min_two_ints (I.ok.hd hc) fun h' tk k => ⟨_, H, I.kept k, ?_, q⟩
  by_cases hj : j < i
  · rw [if_pos hj, if_pos hj]; exact ⟨_, rfl⟩
  · rw [if_neg hj, if_neg hj]; exact ⟨_, rfl⟩
theorem call_int1 : CallR X (.type "int") (fun xs H Q => (∃ i, xs = [.int i] ∧ Q (.int i) H) ∨ ∃ k, xs = [.bl k] ∧ Q (.int (if k then 1 else 0)) H) := by
  intro pins s σ H xs us Q I r h
  rcases h with ⟨i, rfl, q⟩ | ⟨k, rfl, q⟩
  · obtain ⟨u, rfl, t, rfl⟩ := vals1 r
    exact call_int_int ⟨.int i, H, I, ⟨_, rfl⟩, q⟩
  · obtain ⟨u, rfl, r1⟩ := vals1 r
    cases r1
    exact call_int_bool ⟨.int (if k then 1 else 0), H, I.tok _, ⟨_, rfl⟩, q⟩
end
end L2
namespace L2
open PySem PySem.Spec PyProof.Rows
structure ObjM (h : Heap) (x dx C : Addr) (mA : Str → Option Value) : Prop where
  obj : h.get? x = some (PySem.W.instObj C dx)
  ns : h.Ns1 dx mA
  ne : dx ≠ x
theorem lookIn_ns {h : Heap} {dx : Addr} {mA : Str → Option Value} (n : h.Ns1 dx mA) : ∃ od, h.get? dx = some od ∧ ∀ name, PySem.W.lookIn name od = some (mA name) := by
  obtain ⟨o, es, ep, ho, hd, hk, _, hm⟩ := n
  refine ⟨o, ho, fun name => ?_⟩
  have e := hm name
  unfold nsFind findBy at e
  rw [← Array.find?_toList] at e
  unfold PySem.W.lookIn
  rw [hd]
  dsimp only
  split
  · rename_i y q
    rw [q] at e
    exact congrArg some e
  · rename_i q
    rw [q] at e
    have a : es.toList.any (·.refKey) = false := by
      rw [List.any_eq_false]
      intro y hy
      obtain ⟨z, t, hkey⟩ := hk y (Array.mem_toList_iff.mp hy)
      simp [DictEntry.refKey, hkey]
    have a' : ¬ es.toList.any (·.refKey) = true := by rw [a]; exact Bool.false_ne_true
    rw [if_neg a']
    exact congrArg some e
theorem ObjM.look {h : Heap} {x dx C : Addr} {mA : Str → Option Value} (I : ObjM h x dx C mA) : ∃ od, PySem.W.InstAt h x (PySem.W.instObj C dx) C (some od) ∧ ∀ name, PySem.W.lookIn name od = some (mA name) :=
  let ⟨od, ho, hl⟩ := lookIn_ns I.ns
  ⟨od, ⟨I.obj, rfl, rfl, ho⟩, hl⟩
section
variable {prog : Program} {w : World} {A : Around} {E : Value → Shared → Prop} {s : Shared} {K : PySem.W.Frag} {x dx C f : Addr} {mA : Str → Option Value} {name : Str} {v : Value}
end
theorem RelO.some_of {v : V} {o : Option Value} (r : RelO (some v) o) : ∃ u, o = some u ∧ RelV v u := by
  cases o with
  | none => exact (show False from r).elim
  | some u => exact ⟨u, rfl, r⟩
theorem handed_of {v : V} {u : Value} (r : RelV v u) : PySem.W.handedIn u = true := by
  cases v with
  | non => cases (show u = Value.none from r); rfl
  | bl b => cases (show u = Value.bool b from r); rfl
  | int i => obtain ⟨t, e⟩ := (show ∃ t, u = Value.int i t from r); cases e; rfl
  | str x => obtain ⟨t, e⟩ := (show ∃ t, u = Value.str x t from r); cases e; rfl
  | byt b => obtain ⟨t, e⟩ := (show ∃ t, u = Value.bytes b t from r); cases e; rfl
  | flt b => obtain ⟨t, e⟩ := (show ∃ t, u = Value.float b t from r); cases e; rfl
  | ref a => cases (show u = Value.ref a from r); rfl
  | ty n => cases (show u = Value.type n from r); rfl
section
variable {P : Program} {w : World} {H H' : Hp} {h h' : Heap} {a C dx : Addr} {fs fs' : List (Str × V)}
theorem ins_get (hok : HOk P w H h) (e : H a = some (.ins C dx fs)) : ∃ mA, ObjM h a dx C mA ∧ (∀ f, RelO (fs.lookup f) (mA f)) ∧ PySem.Within mA (fs.map (·.1)) ∧ fs.length ≤ 1000 ∧ H dx = some (.own a) := by
  obtain ⟨d, z, ne, ob, mA, n, r, q⟩ := (show ObjOk P w H h a (.ins C dx fs) from hok a _ e)
  exact ⟨mA, ⟨ob, n, ne⟩, r, q, z, d⟩
end
structure Cls (K : PySem.W.Frag) (C : Addr) : Prop where
  pg : PySem.W.plainGet K C Str.empty = true
  hd : PySem.W.hasDictIn K C = true
  po : PySem.W.plainOver K C = true
  sa : PySem.W.findIn K (.ref C) "__setattr__" = some (some (.builtin "object.__setattr__"))
theorem Cls.get {K : PySem.W.Frag} {C : Addr} (c : Cls K C) (f : Str) : PySem.W.plainGet K C f = true := c.pg
section
variable {X : Cx} {pins : List (Addr × Obj)} {σ : St} {H : Hp} {s : Shared} {a C dx : Addr} {fs : List (Str × V)} {f : Str} {v : V} {A : Around} {E : Value → Shared → Prop}
theorem attr_of {prog : Program} {w : World} {env : Env} {e : Expr} {f : Str} {pos : Pos} {s : Shared} {Q : Value → Shared → Prop} (hb : attributeBase e f env (eval e env) = eval e env)
    (h : wpAny (model prog w) A (eval e env) (fun o s₁ => wpAny (model prog w) A (getAttr o f true) Q E s₁) E s) : wpAny (model prog w) A (eval (.Attribute e f pos) env) Q E s :=
  Attribute_any_ h (by rw [arm_eval_Attribute, hb])
end
section
variable {X : Cx} {o e value : Expr} {f : Str} {pos pos' tpos : Pos} {ta tv : TE}
end
section
variable {X : Cx} {pins : List (Addr × Obj)} {σ : St} {H : Hp} {s : Shared} {A : Around} {E : Value → Shared → Prop} {Q : Value → Shared → Prop} {c : Value} {b : Bool}
inductive TyOf (K : PySem.W.Frag) (H : Hp) : V → Value → Prop where
  | non : TyOf K H .non (.type "NoneType")
  | bl (x : Bool) : TyOf K H (.bl x) (.type "bool")
  | int (i : Int) : TyOf K H (.int i) (.type "int")
  | str (x : Str) : TyOf K H (.str x) (.type "str")
  | flt (x : UInt64) : TyOf K H (.flt x) (.type "float")
  | lst {a : Addr} {xs : List V} (e : H a = some (.lst xs)) : TyOf K H (.ref a) (.type "list")
  | frz {a : Addr} {o : Obj} {xs : List V} (e : H a = some (.frz o (.lst xs))) : TyOf K H (.ref a) (.type "list")
  | tup {a : Addr} {xs : List V} (e : H a = some (.tup xs)) : TyOf K H (.ref a) (.type "tuple")
  | dK {a : Addr} {kvs : List (Key × V)} (e : H a = some (.dK kvs)) : TyOf K H (.ref a) (.type "dict")
  | dT {a : Addr} {kvs : List (List Key × V)} (e : H a = some (.dT kvs)) : TyOf K H (.ref a) (.type "dict")
  | ins {a C dx : Addr} {fs : List (Str × V)} (e : H a = some (.ins C dx fs)) (cl : Cls K C) (ha : PySem.W.findIn K (.ref C) "__class__" = some (some (.builtin "object.__class__")))
      (hn : PySem.W.specialIn K (.builtin "object.__class__") "__get__" = some (some (.builtin "getset_descriptor.__get__"))) (htk : PySem.W.takesIn K (.builtin "object.__class__") = some true)
      (hm : PySem.W.mroIn K C (.type "object") = some true) : TyOf K H (.ref a) (.ref C)
theorem isinst_ok {x : V} {u t : Value} (I : Inv X pins σ H s) (rx : RelV x u) (ty : TyOf X.K H x t) (e : PySem.W.kitOne X.K t c = some b) (h : ∀ tk, Q (.bool b) { s with toks := tk }) :
    wpAny (model X.prog X.w) A (call (.builtin "isinstance") [u, c]) Q E s := by
  cases ty with
  | non => cases (show u = Value.none from rx); exact PySem.W.kia_one PySem.W.kitx_none I.kIn True.intro e (fun z => nomatch z) h
  | bl y => cases (show u = Value.bool y from rx); exact PySem.W.kia_one PySem.W.kitx_bool I.kIn True.intro e (fun z => nomatch z) h
  | int i => obtain ⟨t, q⟩ := (show ∃ t, u = Value.int i t from rx); cases q; exact PySem.W.kia_one PySem.W.kitx_int I.kIn True.intro e (fun z => nomatch z) h
  | str y => obtain ⟨t, q⟩ := (show ∃ t, u = Value.str y t from rx); cases q; exact PySem.W.kia_one PySem.W.kitx_str I.kIn True.intro e (fun z => nomatch z) h
  | flt y => obtain ⟨t, q⟩ := (show ∃ t, u = Value.float y t from rx); cases q; exact PySem.W.kia_one PySem.W.kitx_float I.kIn True.intro e (fun z => nomatch z) h
  | @lst a xs ea =>
    cases (show u = Value.ref a from rx)
    obtain ⟨_, _, n, _, h1⟩ := (show ObjOk X.prog X.w H s.heap a (.lst xs) from I.hok a _ ea)
    exact PySem.W.kia_one PySem.W.kitx_list I.kIn ⟨_, h1, rfl⟩ e (fun z => nomatch z) h
  | @frz a ob xs ea =>
    cases (show u = Value.ref a from rx)
    obtain ⟨_, _, _, n, _, h1⟩ := (show ObjOk X.prog X.w H s.heap a (.frz ob (.lst xs)) from I.hok a _ ea)
    exact PySem.W.kia_one PySem.W.kitx_list I.kIn ⟨_, h1, rfl⟩ e (fun z => nomatch z) h
  | @tup a xs ea =>
    cases (show u = Value.ref a from rx)
    obtain ⟨_, _, _, p⟩ := (show ObjOk X.prog X.w H s.heap a (.tup xs) from I.hok a _ ea)
    obtain ⟨o, h1, h2, _⟩ := p
    exact PySem.W.kia_one PySem.W.kitx_tuple I.kIn ⟨o, h1, h2⟩ e (fun z => nomatch z) h
  | @dK a kvs ea =>
    cases (show u = Value.ref a from rx)
    obtain ⟨_, _, vs, _, p⟩ := (show ObjOk X.prog X.w H s.heap a (.dK kvs) from I.hok a _ ea)
    obtain ⟨o, es, ep, h1, h2, _⟩ := p
    exact PySem.W.kia_one PySem.W.kitx_dict I.kIn ⟨o, h1, h2.1⟩ e (fun z => nomatch z) h
  | @dT a kvs ea =>
    cases (show u = Value.ref a from rx)
    obtain ⟨_, _, xs, _, o, es, ep, h1, h2, _⟩ := (show ObjOk X.prog X.w H s.heap a (.dT kvs) from I.hok a _ ea)
    exact PySem.W.kia_one PySem.W.kitx_dict I.kIn ⟨o, h1, h2.1⟩ e (fun z => nomatch z) h
  | @ins a C dx fs ea cl ha hn htk hm =>
    cases (show u = Value.ref a from rx)
    obtain ⟨mA, O, _⟩ := ins_get I.hok ea
    obtain ⟨od, J, _⟩ := O.look
    exact PySem.W.kia_one (PySem.W.kitx_own (cl.get _) cl.hd ha hn htk hm) I.kIn J e (fun z => nomatch z) h
end
end L2
namespace L2
open PySem PySem.Spec PyProof.Rows
structure Room (k : Nat) (A : Around) : Prop where
  hd : A.handled = none
  dp : A.depth + 3 * k + 5 < recursionLimit
  un : A.units + 16 * k + 200 < cLine
theorem Room.mono {j k : Nat} {A : Around} (r : Room k A) (h : j ≤ k) : Room j A := ⟨r.hd, by have := r.dp; (first|lia|omega), by have := r.un; (first|lia|omega)⟩
theorem Room.deeper {k : Nat} {A : Around} (r : Room (k + 1) A) (env : Env) : Room k (A.deeper env) :=
  ⟨r.hd, by have := r.dp; show A.depth + 1 + 3 * k + 5 < _; (first|lia|omega), by have := r.un; show A.units + 3 + 16 * k + 200 < _; (first|lia|omega)⟩
theorem make_depth {A : Around} {C : Addr} {us : List Value} {kw : List (Str × Value)} : (A.under (.builtin "type.__call__" ⟨.ref C :: us, kw⟩)).depth = A.depth + 1 := by
  first | rfl | simp [Around.under, Code.weight, Code.isCreation, Code.isGuard, Code.isCaller, Code.frames, Code.isFrame, guardIds]
theorem make_units {A : Around} {C : Addr} {us : List Value} {kw : List (Str × Value)} : (A.under (.builtin "type.__call__" ⟨.ref C :: us, kw⟩)).units = A.units + 1 := by
  first | rfl | simp [Around.under, Code.cUnits, Code.frames, Code.isFrame]
theorem Room.make {k : Nat} {A : Around} (r : Room (k + 1) A) (C : Addr) (us : List Value) (kw : List (Str × Value)) : Room k (A.under (.builtin "type.__call__" ⟨.ref C :: us, kw⟩)) :=
  ⟨r.hd, by have := r.dp; rw [make_depth]; (first|lia|omega), by have := r.un; rw [make_units]; (first|lia|omega)⟩
theorem Room.depth {k : Nat} {A : Around} (r : Room k A) : A.depth < recursionLimit := by have := r.dp; (first|lia|omega)
theorem Room.units {k : Nat} {A : Around} (r : Room k A) : A.units + 64 < cLine := by have := r.un; (first|lia|omega)
def tNil : TA := fun _ H Q => Q [] H
def tCons (ta : TE) (tr : TA) : TA := fun σ H Q => ta σ H fun x H1 => tr σ H1 fun xs H2 => Q (x :: xs) H2
section
variable {X : Cx} {e : Expr} {es : List Expr} {te : TE} {t : TA} {pos : Pos}
theorem pa_nil : PA X [] tNil := fun _ _ _ _ H Q I h => Calls.spliced_nil ⟨[], H, I, .nil, h⟩
theorem pa_cons (ha : PE X e te) (hr : PA X es t) (hs : starEach (e :: es) X.env = (false, eval e X.env) :: starEach es X.env := by rfl) : PA X (e :: es) (tCons te t) := by
  intro pos pins s σ H Q I h
  rw [hs]
  show wpAny _ _ (spliced ((false, eval e X.env) :: backTo pos (starEach es X.env))) _ _ s
  refine Calls.spliced_cons (thn (ha pins s σ H _ I h) fun u s1 hQ' => ?_)
  obtain ⟨x, H1, I1, r1, q1⟩ := hQ'
  exact thn (hr pos pins s1 σ H1 _ I1 q1) fun us s2 ⟨xs, H2, I2, r2, q2⟩ => ⟨x :: xs, H2, I2, .cons r1 r2, q2⟩
def tTup (t : TA) : TE := fun σ H Q => t σ H fun xs H1 => xs.length ≤ sizeLine ∧ ∀ p, H1 p = none → Q (.ref p) (upd H1 p (.tup xs))
def tLst (t : TA) : TE := fun σ H Q => t σ H fun xs H1 => xs.length ≤ sizeLine ∧ ∀ p, H1 p = none → Q (.ref p) (upd H1 p (.lst xs))
theorem pe_tup {x1} (h : PA X es t) : PE X (.Tuple es x1 pos) (tTup t) := by
  intro pins s σ H Q I hq
  refine wpAny_Tuple_spliced (thn (h pos pins s σ H _ I hq) fun us s1 ⟨xs, H1, I1, r, z, q⟩ => ⟨by rw [← r.length]; exact z, ?_⟩)
  have hf : H1 s1.heap.objs.size = none := I1.hok.fresh (Nat.le_refl _)
  refine ⟨.ref s1.heap.objs.size, upd H1 s1.heap.objs.size (.tup xs), I1.laid (t' := s1.toks) (fun b u e => Heap.get?_push_of_some _ e) (Nat.le_refl _) ?_, rfl, q _ hf⟩
  exact ⟨z, us, r, ⟨_, Heap.get?_push_size _ rfl, rfl, _, rfl⟩⟩
theorem pe_lst (h : PA X es t) : PE X (.List es pos) (tLst t) := by
  intro pins s σ H Q I hq
  refine wpAny_List_spliced (thn (h pos pins s σ H _ I hq) fun us s1 ⟨xs, H1, I1, r, z, q⟩ => ⟨by rw [← r.length]; exact z, ?_⟩)
  have hf : H1 s1.heap.objs.size = none := I1.hok.fresh (Nat.le_refl _)
  refine ⟨.ref s1.heap.objs.size, upd H1 s1.heap.objs.size (.lst xs), I1.laid (t' := s1.toks) (fun b u e => Heap.get?_push_of_some _ e) (Nat.le_refl _) ?_, rfl, q _ hf⟩
  exact ⟨z, us, 0, r, Heap.get?_push_size _ rfl⟩
end
abbrev Sp := List V → Hp → VK → XK → Prop
abbrev CXT := List Env → Hp → Shared → XK → Value → Shared → Prop
structure Env0 (P : Program) (w : World) (K : PySem.W.Frag) (mg : Str → Option Value) (base : Heap) (A : Around) (outer : List Env) (s : Shared) (H : Hp) : Prop where
  frames : A.frames = some outer
  mod : Mod K mg base
  bs : ∀ b o, base.get? b = some o → s.heap.get? b = some o ∧ H b = none
  bsz : base.objs.size ≤ s.heap.objs.size
  funs : s.heap.FunFrames base outer
  frf : ∀ b ∈ frs outer, H b = none
  hok : HOk P w H s.heap
  bare : AllBare s.gens
def CE (outer : List Env) (P : Program) (w : World) (H : Hp) (s : Shared) (Q : VK) (u : Value) (s' : Shared) : Prop :=
  ∃ v H', s'.os = s.os ∧ AllBare s'.gens ∧ Un (frs outer) [] H H' s.heap s'.heap ∧ HOk P w H' s'.heap ∧ RelV v u ∧ Q v H'
def CR (CX : CXT) (outer : List Env) (P : Program) (w : World) (H : Hp) (s : Shared) (Q : VK) (E : XK) (r : Result) (s' : Shared) : Prop :=
  match r with
  | .ok (.ret u) => CE outer P w H s Q u s'
  | .ok _ => False
  | .error e => CX outer H s E e s'
structure FnOk (P : Program) (w : World) (K : PySem.W.Frag) (mg : Str → Option Value) (base : Heap) (CX : CXT) (k : Nat) (f : Addr) (fd : FuncData) (ps : List Str) (sp : Sp) : Prop where
  len : ∀ vs H Q E, sp vs H Q E → vs.length = ps.length
  run : ∀ (A : Around) (outer : List Env) (s : Shared) (H : Hp) (args : Args) (us : List Value) (vs : List V) (Q : VK) (E : XK), Room k A → Env0 P w K mg base A outer s H → BindsTo s fd args (ps.zip us) → Vals vs us → sp vs H Q E →
    codeAny (model P w) A (.call (.ref f) args) (CR CX outer P w H s Q E) s
theorem Env0.make {P : Program} {w : World} {K : PySem.W.Frag} {mg : Str → Option Value} {base : Heap} {A : Around} {outer : List Env} {s : Shared} {H : Hp} (e : Env0 P w K mg base A outer s H) (C : Addr) (us : List Value) (kw : List (Str × Value)) :
    Env0 P w K mg base (A.under (.builtin "type.__call__" ⟨.ref C :: us, kw⟩)) outer s H := ⟨by first | exact e.frames | (simpa [Around.under, Code.envs, Code.isFrame, pushEnvs] using e.frames), e.mod, e.bs, e.bsz, e.funs, e.frf, e.hok, e.bare⟩
section
variable {X : Cx} {pins : List (Addr × Obj)} {σ : St} {H : Hp} {s s' : Shared}
theorem Inv.env0 (I : Inv X pins σ H s) : Env0 X.prog X.w X.K X.mg X.base X.A X.stack s H :=
  ⟨I.ok.frames, I.ok.mod, I.bs, Nat.le_trans I.ok.bsz I.sz, I.stack, I.stkFree, I.hok, I.bare⟩
theorem Inv.after {Q : VK} {u : Value} (I : Inv X pins σ H s) (h : CE X.stack X.prog X.w H s Q u s') : EP X pins σ Q u s' := by
  obtain ⟨v, H', os, bare, un, hok, r, q⟩ := h
  obtain ⟨hh, g, d, t, os'⟩ := s'
  obtain rfl : os' = s.os := os
  exact ⟨v, H', I.call (h' := hh) (g' := g) (d' := d) (t' := t) (ch := []) un hok bare (fun b z => absurd z (by simp)), r, q⟩
end
def tCall (sp : Sp) (dvs : List V) (E : XK) (t : TA) : TE := fun σ H Q => t σ H fun vs H1 => sp (vs ++ dvs) H1 Q E
def Binds (K : PySem.W.Frag) (fd : FuncData) (ps : List Str) (ds : List Value) : Prop :=
  ∀ (s : Shared) (us : List Value), K.In s.heap → (us ++ ds).length = ps.length → BindsTo s fd ⟨us, []⟩ (ps.zip (us ++ ds))
theorem Binds.all {K : PySem.W.Frag} {fd : FuncData} {ps : List Str} (h : ∀ us : List Value, us.length = ps.length → bindArgs fd ⟨us, []⟩ = pure (ps.zip us)) : Binds K fd ps [] := fun s us _ hl => by
  rw [List.append_nil] at hl ⊢
  exact .of_eq (h us hl)
def Passes (CX : CXT) (X : Cx) (E : XK) : Prop := ∀ (pins : List (Addr × Obj)) (σ : St) (H : Hp) (s : Shared) (e : Value) (s' : Shared), Inv X pins σ H s → CX X.stack H s E e s' → X.xe e s'
section
variable {X : Cx} {CX : CXT} {k : Nat} {f C : Addr} {fd : FuncData} {ps : List Str} {sp : Sp} {dvs : List V} {ds : List Value} {E : XK} {x m : Str} {p pos apos : Pos} {e o : Expr} {es : List Expr} {ta : TE} {t : TA}
theorem run_fn {pins : List (Addr × Obj)} {σ : St} {H : Hp} {s : Shared} {Q : VK} {us : List Value} {vs : List V} (F : FnOk X.prog X.w X.K X.mg X.base CX k f fd ps sp) (hr : Room k X.A) (hb : Binds X.K fd ps ds) (hd : Vals dvs ds) (hx : Passes CX X E)
    (I : Inv X pins σ H s) (r : Vals vs us) (h : sp (vs ++ dvs) H Q E) : wpAny (model X.prog X.w) X.A (call (.ref f) us) (EP X pins σ Q) X.xe s := by
  have r2 : Vals (vs ++ dvs) (us ++ ds) := r.append hd
  have hl : (us ++ ds).length = ps.length := by rw [← r2.length]; exact F.len _ _ _ _ h
  refine wpAny_call (codeAny_mono (F.run X.A X.stack s H ⟨us, []⟩ (us ++ ds) (vs ++ dvs) Q E hr I.env0 (hb s us I.kIn hl) r2 h) fun r s' hq => ?_)
  cases r with
  | error e => exact hx pins σ H s e s' I hq
  | ok fl =>
    cases fl with
    | ret u => exact I.after hq
    | next => exact False.elim hq
    | brk => exact False.elim hq
    | cont => exact False.elim hq
theorem pe_call (F : FnOk X.prog X.w X.K X.mg X.base CX k f fd ps sp) (hr : Room k X.A) (hg : Gl X x) (hm : X.mg x = some (.ref f)) (hk : PySem.W.keepIn X.K (.ref f) = true) (hb : Binds X.K fd ps ds) (hd : Vals dvs ds) (hx : Passes CX X E)
    (ha : PA X (e :: es) t) (hdb : (x == ("__debug__" : Str)) = false := by decide) (he : starEach (e :: es) X.env = (false, eval e X.env) :: starEach es X.env := by rfl) (hpl : (backTo pos (starEach es X.env)).any (·.1) = false := by rfl) :
    PE X (.Call (.Name x p) (e :: es) [] pos) (tCall sp dvs E t) := by
  intro pins s σ H Q I h
  refine wpAny_Call_Name_kw (ld_glob I hg hm ?_ hdb)
  refine PySem.W.callWith_K (h₀ := X.base) I.ok.mod.kin hk (thn (ha pos pins s σ H _ I h) fun us s1 ⟨vs, H1, I1, r, q⟩ => ⟨I1.kIn, ?_⟩) he hpl
  exact run_fn F hr hb hd hx I1 r q
end
section
variable {X : Cx} {CX : CXT} {k : Nat} {f C : Addr} {fd : FuncData} {ps ks : List Str} {sp : Sp} {E : XK} {x m : Str} {p pos apos kpos : Pos} {e o : Expr} {es : List Expr} {kws : List Keyword} {te ta : TE} {t tk : TA} {nm : Option Str}
variable {g : List Value → List Value → List Value} {gV : List V → List V → List V}
end
structure FnScope (N P : List Str) (sc : Scope) : Prop where
  kind : sc.kind = .function
  co : sc.isCoroutine = false
  gen : sc.isGenerator = false
  nd : N.Nodup
  pre : N.take P.length = P
  par : ∀ x ∈ P, sc.names.lookup x = some .local ∨ sc.names.lookup x = some .cell
  nofree : ∀ y ∈ sc.names, y.2 ≠ .free
theorem bindL_out {kindOf : Str → Option NameKind} {x : Str} : ∀ {binds : List (Str × Value)} {m : Str → Option Value}, (∀ v, (x, v) ∉ binds) → bindL kindOf binds m x = m x
  | [], _, _ => rfl
  | (n, v) :: r, m, h => by
    unfold bindL
    rw [bindL_out fun w hw => h w (List.mem_cons_of_mem _ hw)]
    split
    · have : x ≠ n := by rintro rfl; exact h v List.mem_cons_self
      simp [this]
    · rfl
theorem bindC_out {kindOf : Str → Option NameKind} {x : Str} : ∀ {binds : List (Str × Value)} {m : Str → Option Value}, (∀ v, (x, v) ∉ binds) → bindC kindOf binds m x = m x
  | [], _, _ => rfl
  | (n, v) :: r, m, h => by
    unfold bindC
    rw [bindC_out fun w hw => h w (List.mem_cons_of_mem _ hw)]
    split
    · rfl
    · have : x ≠ n := by rintro rfl; exact h v List.mem_cons_self
      simp [this]
theorem bindL_get {kindOf : Str → Option NameKind} {x : Str} {v : Value} : ∀ {P : List Str} {vs : List Value} {i : Nat} {m : Str → Option Value}, P.Nodup → P[i]? = some x → vs[i]? = some v → kindOf x = some .local →
    bindL kindOf (P.zip vs) m x = some v
  | [], _, _, _, _, h, _, _ => by simp at h
  | _ :: _, [], _, _, _, _, h, _ => by simp at h
  | p :: P, w :: vs, 0, m, nd, h1, h2, hk => by
    simp at h1 h2; subst h1; subst h2
    show bindL kindOf ((p, w) :: P.zip vs) m p = _
    unfold bindL
    rw [bindL_out fun v hv => (List.nodup_cons.mp nd).1 (List.of_mem_zip hv).1, if_pos hk]
    simp
  | p :: P, w :: vs, i + 1, m, nd, h1, h2, hk => by
    show bindL kindOf ((p, w) :: P.zip vs) m x = _
    unfold bindL
    exact bindL_get (i := i) (List.nodup_cons.mp nd).2 (by simpa using h1) (by simpa using h2) hk
theorem bindC_get {kindOf : Str → Option NameKind} {x : Str} {v : Value} : ∀ {P : List Str} {vs : List Value} {i : Nat} {m : Str → Option Value}, P.Nodup → P[i]? = some x → vs[i]? = some v → kindOf x ≠ some .local →
    bindC kindOf (P.zip vs) m x = some v
  | [], _, _, _, _, h, _, _ => by simp at h
  | _ :: _, [], _, _, _, _, h, _ => by simp at h
  | p :: P, w :: vs, 0, m, nd, h1, h2, hk => by
    simp at h1 h2; subst h1; subst h2
    show bindC kindOf ((p, w) :: P.zip vs) m p = _
    unfold bindC
    rw [bindC_out fun v hv => (List.nodup_cons.mp nd).1 (List.of_mem_zip hv).1, if_neg hk]
    simp
  | p :: P, w :: vs, i + 1, m, nd, h1, h2, hk => by
    show bindC kindOf ((p, w) :: P.zip vs) m x = _
    unfold bindC
    exact bindC_get (i := i) (List.nodup_cons.mp nd).2 (by simpa using h1) (by simpa using h2) hk
def start (N : List Str) (vs : List V) : St := vs.map some ++ List.replicate (N.length - vs.length) none
def cxOf (CX : CXT) (P : Program) (w : World) (K : PySem.W.Frag) (mg : Str → Option Value) (base : Heap) (N : List Str) (qual : Str) (scope : Scope) (f : Addr) (cd : Value) (A : Around) (outer : List Env) (s : Shared) (H : Hp) (E : XK) : Cx where
  prog := P
  w := w
  K := K
  mg := mg
  base := base
  A := A.deeper (envOfC qual scope s.heap.objs.size f cd)
  N := N
  s₀ := s
  H₀ := H
  env := envOfC qual scope s.heap.objs.size f cd
  outer := outer
  stack := envOfC qual scope s.heap.objs.size f cd :: outer
  ex := []
  calm := true
  fn := fun _ => true
  pn := []
  xe := fun e s' => wpAny (model P w) (A.deeper (envOfC qual scope s.heap.objs.size f cd)) (leaving (envOfC qual scope s.heap.objs.size f cd) e) (fun _ s'' => CX outer H s E e s'') (fun e' s'' => CX outer H s E e' s'') s'
theorem cell_has {sc : Scope} {n : Nat} {x : Str} (h : sc.names.lookup x = some .cell) : ∃ c, (cellsFrom n sc.names []).lookup x = some c := by
  have q := PySem.W.cellsFrom_some sc.names n [] (.inl h)
  exact Option.isSome_iff_exists.mp q
theorem inv_start {CX : CXT} {P : Program} {w : World} {K : PySem.W.Frag} {mg : Str → Option Value} {base : Heap} {N ps : List Str} {qual : Str} {scope : Scope} {f : Addr} {cd : Value} {A : Around} {outer : List Env} {s s1 : Shared} {H : Hp} {E : XK} {us : List Value} {vs : List V}
    (S : FnScope N ps scope) (hd : A.handled = none) (e0 : Env0 P w K mg base A outer s H) (hl : vs.length = ps.length) (r : Vals vs us)
    (x : InCallC s s.heap.objs.size (bindL (envOfC qual scope s.heap.objs.size f cd).kindOf (ps.zip us) fun _ => none) (cellsFrom (s.heap.objs.size + 1) scope.names []) (bindC (envOfC qual scope s.heap.objs.size f cd).kindOf (ps.zip us) fun _ => none) s1) :
    Inv (cxOf CX P w K mg base N qual scope f cd A outer s H E) [] (start N vs) H s1 := by
  have hpl : ps.length ≤ N.length := by have := congrArg List.length S.pre; rw [List.length_take] at this; (first|lia|omega)
  obtain ⟨h1, tk, rfl, hk⟩ := x.done
  have noA : ∀ b : Addr, b ∉ (cxOf CX P w K mg base N qual scope f cd A outer s H E).ex := fun b z => absurd (show b ∈ ([] : List Addr) from z) (by simp)
  refine ⟨⟨e0.mod, S.kind, rfl, rfl, Nat.le_refl _, fun y z c h1 h2 => ?_, fun y hy => ?_, fun y c _ h => ?_, fun _ => hd, Around.frames_deeper e0.frames, .inr ⟨rfl, rfl⟩, fun b z => absurd z (noA b), e0.bs, e0.bsz, fun b _ _ => noA b, fun b z => absurd z (noA b), e0.funs, e0.frf⟩,
    rfl, e0.bare, Un.kept hk, ⟨_, x.toInCall.ns, fun i y v h1 h2 h3 => ?_⟩, fun y c h => ⟨_, x.cell y c h⟩, e0.hok.fresh (Nat.le_refl _), fun y c h => ?_, fun p hp => absurd (show p ∈ ([] : List (Addr × Obj)) from hp) (by simp), e0.hok.kept hk, ?_⟩
  · exact name_of_addr x.apart (PySem.mem_of_lookup h1) (PySem.mem_of_lookup h2)
  · have hy : scope.names.lookup y = some .cell ∨ scope.names.lookup y = some .free := hy
    rcases hy with hy | hy
    · exact cell_has hy
    · exact absurd rfl (S.nofree _ (PySem.mem_of_lookup hy))
  · exact Nat.le_of_lt (x.above y c (PySem.mem_of_lookup h))
  · have hi : i < vs.length := by
      unfold start at h2
      by_cases hi : i < vs.length
      · exact hi
      · rw [List.getElem?_append_right (by simpa using hi)] at h2
        rw [List.getElem?_replicate] at h2
        split at h2 <;> cases h2
    have ha : vs[i]? = some v := by
      unfold start at h2
      rw [List.getElem?_append_left (by simpa using hi), List.getElem?_map] at h2
      cases e : vs[i]? with
      | none => rw [e] at h2; cases h2
      | some a => rw [e] at h2; cases h2; rfl
    obtain ⟨u, hu, rv⟩ := r.get ha
    have hp : ps[i]? = some y := by
      rw [← S.pre, List.getElem?_take_of_lt (by (first|lia|omega))]; exact h1
    have ndP : ps.Nodup := by rw [← S.pre]; exact S.nd.sublist (List.take_sublist _ _)
    refine ⟨u, rv, ?_⟩
    rcases S.par y (List.mem_of_getElem? hp) with k | k
    · exact .inl ⟨k, bindL_get ndP hp hu k⟩
    · obtain ⟨c, e⟩ := cell_has (n := s.heap.objs.size + 1) k
      refine .inr ⟨.inl k, c, e, ?_⟩
      have q := x.cell y c e
      rw [bindC_get ndP hp hu (by show scope.names.lookup y ≠ _; rw [k]; decide)] at q
      exact q
  · exact e0.hok.fresh (Nat.le_of_lt (x.above y c (PySem.mem_of_lookup h)))
  · unfold start
    show _ = N.length
    rw [List.length_append, List.length_map, List.length_replicate]
    (first|lia|omega)
theorem fn_of {CX : CXT} {P : Program} {w : World} {K : PySem.W.Frag} {mg : Str → Option Value} {base : Heap} {k : Nat} {f : Addr} {name qual : Str} {params : Arguments} {body : List Stmt} {scope : Scope} {dV kV doc pm cdv ct oc : Value} {an od : Option Addr}
    {osl : Array (Option Value)} {N ps : List Str} {sp : Sp} (lk : K.lookup f = some ⟨oc, od, .func (PySem.W.fnOf name qual params body scope dV kV doc pm an cdv ct), osl⟩) (hcd : PySem.W.codeIn K cdv qual = true) (S : FnScope N ps scope)
    (len : ∀ vs H Q E, sp vs H Q E → vs.length = ps.length)
    (hbody : ∀ (A : Around) (outer : List Env) (s : Shared) (H : Hp) (vs : List V) (Q : VK) (E : XK), Room k (A.deeper (envOfC qual scope s.heap.objs.size f cdv)) → sp vs H Q E →
      ∃ t, PSs (cxOf CX P w K mg base N qual scope f cdv A outer s H E) body t ∧ t { nx := fun _ H' => Q .non H', rt := Q } (start N vs) H) :
    FnOk P w K mg base CX (k + 1) f (PySem.W.fnOf name qual params body scope dV kV doc pm an cdv ct) ps sp := by
  refine ⟨len, fun A outer s H args us vs Q E hr e0 hb r hsp => ?_⟩
  have hl := len _ _ _ _ hsp
  have KX : K.In s.heap := e0.mod.kin.keeps fun b o e => (e0.bs b o e).1
  have lim : s.heap.NoLimit := e0.mod.nolimit.keeps fun b o e => (e0.bs b o e).1
  have hkind : ∀ y ∈ ps.zip us, scope.names.lookup y.1 = some .local ∨ (scope.names.lookup y.1 = some .cell ∧ ((cellsFrom (s.heap.objs.size + 1) scope.names []).lookup y.1).isSome = true) := fun ⟨n, v⟩ hy => by
    rcases S.par n (List.of_mem_zip hy).1 with q | q
    · exact .inl q
    · exact .inr ⟨q, PySem.W.cellsFrom_some _ _ _ (.inl q)⟩
  refine codeAny_call_function hr.depth (KX _ _ lk) rfl S.co S.gen rfl (PySem.W.codeRec_of KX hcd) (hb _ _ _ _ ?_)
  refine wpAny_newFunctionEnv_cells S.kind hkind fun env he s1 x => ?_
  subst he
  refine ⟨lim.keeps x.toInCall.keep, codeAny_func ?_⟩
  obtain ⟨t, ht, hq⟩ := hbody A outer s H vs Q E (hr.deeper _) hsp
  have I : Inv (cxOf CX P w K mg base N qual scope f cdv A outer s H E) [] (start N vs) H s1 := inv_start S hr.hd e0 hl r x
  refine wpAny_mono (ht [] s1 (start N vs) H _ I hq) (fun fl s' hs => ?_) fun e s' hs => hs
  have fin : ∀ {σ' : St} {H' : Hp} {v : V} {u : Value}, Inv (cxOf CX P w K mg base N qual scope f cdv A outer s H E) [] σ' H' s' → RelV v u → Q v H' → CE outer P w H s Q u s' :=
    fun {σ' H' v u} J rv q => ⟨v, H', J.os, J.bare, J.base, J.hok, rv, q⟩
  cases fl with
  | ret u =>
    obtain ⟨v, σ', H', J, rv, q⟩ := hs
    exact fin J rv q
  | next =>
    obtain ⟨σ', H', J, q⟩ := hs
    exact fin (v := V.non) (u := Value.none) J rfl q
  | brk =>
    obtain ⟨_, _, _, q⟩ := hs
    exact False.elim q
  | cont =>
    obtain ⟨_, _, _, q⟩ := hs
    exact False.elim q
end L2
namespace L2
open PySem PySem.Spec PyProof.Rows
section
variable {X : Cx} {x : Str} {p pos : Pos} {e : Expr} {es : List Expr} {t : TA} {id T : String} {r : List V → Hp → VK → Prop}
def tCB (r : List V → Hp → VK → Prop) (t : TA) : TE := fun σ H Q => t σ H fun vs H1 => r vs H1 Q
theorem pe_callB (hc : CallR X (.builtin id) r) (hg : Gl X x) (hm : X.mg x = none) (hv : bootBuiltins x = some (.builtin id)) (ha : PA X (e :: es) t) (hn : x ≠ "__name__" := by decide) (hdb : (x == ("__debug__" : Str)) = false := by decide)
    (he : starEach (e :: es) X.env = (false, eval e X.env) :: starEach es X.env := by rfl) (hpl : (backTo pos (starEach es X.env)).any (·.1) = false := by rfl) : PE X (.Call (.Name x p) (e :: es) [] pos) (tCB r t) := by
  intro pins s σ H Q I h
  refine wpAny_Call_Name_kw (ld_blt I hg hm hv ?_ hn hdb)
  exact PyProof.Rows.callWith_builtin1 (thn (ha pos pins s σ H _ I h) fun us s1 ⟨vs, H1, I1, r1, q1⟩ => hc pins s1 σ H1 vs us Q I1 r1 q1) he hpl
theorem pe_callTy (hc : CallR X (.type T) r) (hg : Gl X x) (hm : X.mg x = none) (hv : bootBuiltins x = some (.type T)) (ha : PA X (e :: es) t) (hn : x ≠ "__name__" := by decide) (hdb : (x == ("__debug__" : Str)) = false := by decide)
    (he : starEach (e :: es) X.env = (false, eval e X.env) :: starEach es X.env := by rfl) (hpl : (backTo pos (starEach es X.env)).any (·.1) = false := by rfl) : PE X (.Call (.Name x p) (e :: es) [] pos) (tCB r t) := by
  intro pins s σ H Q I h
  refine wpAny_Call_Name_kw (ld_blt I hg hm hv ?_ hn hdb)
  exact PyProof.Rows.callWith_type1 (thn (ha pos pins s σ H _ I h) fun us s1 ⟨vs, H1, I1, r1, q1⟩ => hc pins s1 σ H1 vs us Q I1 r1 q1) he hpl
end
end L2
namespace HT
open PySem PyProof.Rows
section
open PySem.SeqAt
open PySem.AutoSeq1 (wpAny_loadPart')
open PySem.MeetsSeq PySem.MeetsSeq2 PySem.MeetsSeq3
end
section
variable {prog : Program} {w : World} {A : Around} {E : Value → Shared → Prop} {s : Shared}
theorem cat_tup {t b : Addr} {vs ws : List Value} {Q : Value → Shared → Prop} (ht : IsTup s.heap t vs.toArray) (hb : IsTup s.heap b ws.toArray) (hv : vs ≠ [])
    (h1 : ws = [] → Q (.ref t) s) (h2 : ws ≠ [] → Q (.ref s.heap.objs.size) { s with heap := s.heap.push { cls := .type "tuple", data := .seq (vs ++ ws).toArray } })
    (hsz : vs.length + ws.length ≤ sizeLine) : wpAny (model prog w) A (binaryOp .Add (.ref t) (.ref b)) Q E s := by
  obtain ⟨⟨cls, dd, data, sl⟩, ho, hc, n, hd⟩ := id ht
  obtain ⟨⟨cls2, dd2, data2, sl2⟩, ho2, hc2, n2, hd2⟩ := id hb
  simp only at hc hd hc2 hd2
  subst hc hd hc2 hd2
  have e : vs.toArray ++ ws.toArray = (vs ++ ws).toArray := by simp
  by_cases hw : ws = []
  · exact concat_meets ⟨_, ho, rfl⟩ ⟨_, ho2, rfl⟩ noFill_tuple_add seq_tuple_add PySem.F.slot_tuple_add PySem.F.entry_tuple_add (PySem.F.args_tuple_add_2 _ _)
      (tuple_addW1 t b vs.toArray ws.toArray n n2 dd dd2 sl sl2 (by simpa using hv) (by simp [hw])) ⟨ho, ho2, h1 hw⟩
  · refine concat_meets ⟨_, ho, rfl⟩ ⟨_, ho2, rfl⟩ noFill_tuple_add seq_tuple_add PySem.F.slot_tuple_add PySem.F.entry_tuple_add (PySem.F.args_tuple_add_2 _ _)
      (tuple_addW2 t b vs.toArray ws.toArray n n2 dd dd2 sl sl2 (by simpa using hv) (by simpa using hw) (by rw [List.size_toArray, List.size_toArray]; exact hsz)) ⟨ho, ho2, ?_⟩
    rw [e]
    exact h2 hw
def sIx (n d : Nat) : Option Int → Nat
  | none => d
  | some v => if v < 0 then (v + (n : Int)).toNat else min v.toNat n
theorem sIx_none (n d : Nat) : sIx n d none = d := rfl
theorem sIx_nat (n d k : Nat) : sIx n d (some (k : Int)) = min k n := by
  show (if (k : Int) < 0 then ((k : Int) + (n : Int)).toNat else min (k : Int).toNat n) = min k n
  rw [if_neg (by (first|lia|omega)), Int.toNat_natCast]
theorem sIx_le (n d : Nat) (hd : d ≤ n) (o : Option Int) : sIx n d o ≤ n := by
  cases o with
  | none => exact hd
  | some v =>
    show (if v < 0 then (v + (n : Int)).toNat else min v.toNat n) ≤ n
    by_cases hv : v < 0
    · rw [if_pos hv]; (first|lia|omega)
    · rw [if_neg hv]; exact Nat.min_le_right _ _
theorem clip_eq (v : Int) (n d : Nat) : (if v < 0 then max (v + (n : Int)) 0 else min v (n : Int)) = ((sIx n d (some v) : Nat) : Int) := by
  show (if v < 0 then max (v + (n : Int)) 0 else min v (n : Int)) = (((if v < 0 then (v + (n : Int)).toNat else min v.toNat n) : Nat) : Int)
  by_cases hv : v < 0
  · simp only [if_pos hv]; (first|lia|omega)
  · simp only [if_neg hv]; (first|lia|omega)
theorem adjust_gen (lo hi : Option Int) (n : Nat) : Builtin.Slice.sliceAdjust lo hi 1 (n : Int) = (((sIx n 0 lo : Nat) : Int), ((sIx n n hi : Nat) : Int)) := by
  have h1 : ¬ ((1 : Int) < 0) := by (first|lia|omega)
  unfold Builtin.Slice.sliceAdjust
  simp only [h1,if_false]
  refine Prod.ext ?_ ?_
  · cases lo with
    | none => rfl
    | some v => exact clip_eq v n 0
  · cases hi with
    | none => rfl
    | some v => exact clip_eq v n n
theorem places_gen (i j : Nat) : Builtin.Slice.slicePlaces (i : Int) (j : Int) 1 = j - i := by
  unfold Builtin.Slice.slicePlaces
  have h1 : (1 : Int) > 0 := by (first|lia|omega)
  simp only [h1,if_true,Int.ediv_one]
  split <;> (first|lia|omega)
theorem slicePart_ {v : Value} {o : Option Int} {Q : Option Int → Shared → Prop} (p : IsPart v o) (h : Q o s) : wpAny (model prog w) A (Builtin.Slice.slicePartIndex v) Q E s := by
  cases p with
  | none => exact slicePart_none h
  | int i t => exact slicePart_int h
theorem sliceApplied_gen {sl : Addr} {vl vu : Value} {lo hi : Option Int} {n : Nat} {Q : Int × Int × Nat → Shared → Prop} (hs : s.heap.IsSliceOf sl vl vu .none) (pl : IsPart vl lo) (pu : IsPart vu hi)
    (h : Q (((sIx n 0 lo : Nat) : Int), 1, sIx n n hi - sIx n 0 lo) s) : wpAny (model prog w) A (Builtin.Slice.sliceApplied (.ref sl) (pure (n : Int))) Q E s := by
  obtain ⟨os, hos, hcs, hds⟩ := id hs
  unfold Builtin.Slice.sliceApplied Builtin.Slice.sliceFields
  refine wpAny_bind (wpAny_bind (wpAny_field hos hds (x := vl) rfl (wpAny_bind (wpAny_field hos hds (x := vu) rfl (wpAny_bind (wpAny_field hos hds (x := .none) rfl (wpAny_pure ?_)))))))
  refine wpAny_bind (slicePart_none ?_)
  show wpAny _ _ (if ((1 : Int) == 0) = true then _ else _) _ _ s
  rw [if_neg (by decide)]
  refine wpAny_bind (slicePart_ pl (wpAny_bind (slicePart_ pu (wpAny_bind (wpAny_pure ?_)))))
  show wpAny _ _ (match Builtin.Slice.sliceAdjust lo hi 1 (n : Int) with | (lo, hi) => pure (lo, (1 : Int), Builtin.Slice.slicePlaces lo hi 1)) _ _ s
  rw [adjust_gen lo hi n]
  show wpAny _ _ (pure (((sIx n 0 lo : Nat) : Int), (1 : Int), Builtin.Slice.slicePlaces ((sIx n 0 lo : Nat) : Int) ((sIx n n hi : Nat) : Int) 1)) _ _ s
  rw [places_gen]
  exact wpAny_pure h
theorem pick_gen (xs : Array Value) (i k : Nat) : ((List.range k).filterMap fun (m : Nat) => xs[((i : Int) + (m : Int) * 1).toNat]?).toArray = ((xs.toList.drop i).take k).toArray := by
  have e : (fun (m : Nat) => xs[((i : Int) + (m : Int) * 1).toNat]?) = fun m => xs[i + m]? := by
    funext m
    have : ((i : Int) + (m : Int) * 1).toNat = i + m := by (first|lia|omega)
    rw [this]
  rw [e]
  have := pick_run xs i k
  rw [List.filterMap_map] at this
  have e2 : ((fun x => xs[x]?) ∘ fun x => i + x) = fun m => xs[i + m]? := rfl
  rw [e2] at this
  rw [this]
theorem getItem_tuple_cut {t sl : Addr} {items : Array Value} {vl vu : Value} {lo hi : Option Int} {Q : Value → Shared → Prop} (ht : IsTup s.heap t items) (hs : s.heap.IsSliceOf sl vl vu .none) (pl : IsPart vl lo) (pu : IsPart vu hi)
    (hw : ¬ (sIx items.size 0 lo = 0 ∧ sIx items.size items.size hi = items.size))
    (h : Q (.ref s.heap.objs.size) { s with heap := s.heap.push { cls := .type "tuple", data := .seq ((items.toList.drop (sIx items.size 0 lo)).take (sIx items.size items.size hi - sIx items.size 0 lo)).toArray } })
    (hsz : items.size ≤ sizeLine) : wpAny (model prog w) A (getItem (.ref t) (.ref sl)) Q E s := by
  have htake : sizeOk (.seq ((items.toList.drop (sIx items.size 0 lo)).take (sIx items.size items.size hi - sIx items.size 0 lo)).toArray) := by
    show ((items.toList.drop (sIx items.size 0 lo)).take (sIx items.size items.size hi - sIx items.size 0 lo)).toArray.size ≤ sizeLine
    rw [List.size_toArray, List.length_take, List.length_drop, Array.length_toList]
    (first|lia|omega)
  have hj : sIx items.size items.size hi ≤ items.size := sIx_le _ _ (Nat.le_refl _) hi
  obtain ⟨os, hos, hcs, hds⟩ := id hs
  have hTs : s.TypeIs (.ref sl) "slice" := ⟨os, hos, hcs⟩
  unfold getItem
  try with_reducible refine wpAny_holding ?_
  first | refine wpAny_bind (wpAny_pure ?_) | skip
  refine wpAny_bind (wpAny_sequenceKey ht.typeIs (by decide) ?_)
  refine wpAny_bind (wpAny_callSpecial?_slot (name := Str.ofString "__getitem__") ht.typeIs PyProof.Rows.slot_tuple_getitem
    (wpAny_call_entry PyProof.Rows.slot_tuple_getitem ht.typeIs entry_tuple_getitem ?_ (args_tuple_getitem _ _)))
  show wpAny _ _ (Builtin.Tuple.tupleItemsOf (.ref t) >>= _) _ _ s
  refine wpAny_bind (tupleItemsOf_ ht ?_)
  refine wpAny_bind (wpAny_typeOf hTs ?_)
  rw [if_pos (by decide)]
  refine wpAny_bind (sliceApplied_gen hs pl pu ?_)
  have hno : ¬ ((((sIx items.size 0 lo : Nat) : Int) == 0 && (1 : Int) == 1 && (sIx items.size items.size hi - sIx items.size 0 lo) == items.size) = true) := by
    intro q
    rw [Bool.and_eq_true, Bool.and_eq_true] at q
    have q1 : ((sIx items.size 0 lo : Nat) : Int) = 0 := eq_of_beq q.1.1
    have q2 : sIx items.size items.size hi - sIx items.size 0 lo = items.size := eq_of_beq q.2
    exact hw ⟨by (first|lia|omega), by (first|lia|omega)⟩
  show wpAny _ _ (if (((sIx items.size 0 lo : Nat) : Int) == 0 && (1 : Int) == 1 && (sIx items.size items.size hi - sIx items.size 0 lo) == items.size) = true then _ else _) _ _ s
  rw [if_neg hno, pick_gen]
  first
    | exact wpAny_bind (m := Builtin.Tuple.tupleExact _) (wpAny_newObj_type (wpAny_pure ⟨_, rfl, wpAny_pure h⟩) htake)
    | exact wpAny_bind (m := Builtin.Tuple.tupleExact _) (wpAny_newObj_type (wpAny_bind (wpAny_pure (wpAny_pure ⟨_, rfl, wpAny_pure h⟩))) htake)
    | exact wpAny_bind (wpAny_bind (m := Builtin.Tuple.tupleExact _) (wpAny_newObj_type (wpAny_pure (wpAny_pure ⟨_, rfl, wpAny_pure h⟩)) htake))
    | exact wpAny_bind (wpAny_bind (m := Builtin.Tuple.tupleExact _) (wpAny_newObj_type (wpAny_pure ⟨_, rfl, wpAny_pure h⟩) htake))
end
end HT
namespace L2
open PySem PySem.Spec PyProof.Rows
abbrev TO := St → Hp → (Option Int → Hp → Prop) → Prop
def PO (X : Cx) (e : Option Expr) (t : TO) : Prop :=
  ∀ (pins : List (Addr × Obj)) (s : Shared) (σ : St) (H : Hp) (Q : Option Int → Hp → Prop), Inv X pins σ H s → t σ H Q →
    wpAny (model X.prog X.w) X.A (evalPart e X.env) (fun u s' => ∃ o H', Inv X pins σ H' s' ∧ IsPart u o ∧ Q o H') X.xe s
def tNoPart : TO := fun _ H Q => Q none H
def tPart (t : TE) : TO := fun σ H Q => t σ H fun x H1 => ∃ i, x = .int i ∧ Q (some i) H1
section
variable {X : Cx} {e : Expr} {te : TE} {lo hi : Option Expr} {tl th : TO} {pos p2 : Pos}
theorem po_none : PO X none tNoPart := by
  intro pins s σ H Q I h
  rw [evalPart_none]
  exact wpAny_pure ⟨none, H, I, .none, h⟩
theorem po_some (h : PE X e te) : PO X (some e) (tPart te) := by
  intro pins s σ H Q I hw
  rw [evalPart_some]
  refine thn (h pins s σ H _ I hw) fun u s1 hQ' => ?_
  obtain ⟨x, H1, I1, r1, q1⟩ := hQ'
  obtain ⟨i, rfl, q⟩ := q1
  obtain ⟨t, rfl⟩ := r1
  exact ⟨some i, H1, I1, .int i t, q⟩
def SlR (X : Cx) (r : V → Option Int → Option Int → Hp → VK → Prop) : Prop :=
  ∀ (pins : List (Addr × Obj)) (s : Shared) (σ : St) (H : Hp) (x : V) (v vl vu : Value) (lo hi : Option Int) (sl : Addr) (Q : VK), Inv X pins σ H s → RelV x v → s.heap.IsSliceOf sl vl vu .none → IsPart vl lo → IsPart vu hi → r x lo hi H Q →
    ∃ T id, typeLookup (.type T) "__getitem__" = pure (some (.builtin id)) ∧ s.TypeIs v T ∧ wpAny (model X.prog X.w) X.A (getItem v (.ref sl)) (EP X pins σ Q) X.xe s
def tSl (r : V → Option Int → Option Int → Hp → VK → Prop) (te : TE) (tl th : TO) : TE := fun σ H Q => te σ H fun x H1 => tl σ H1 fun l H2 => th σ H2 fun u H3 => r x l u H3 Q
theorem pe_slice {r : V → Option Int → Option Int → Hp → VK → Prop} (hr : SlR X r) (he : PE X e te) (hl : PO X lo tl) (hu : PO X hi th) : PE X (.Subscript e (.Slice lo hi none p2) pos) (tSl r te tl th) := by
  intro pins s σ H Q I h
  refine Subscript_ (thn (he pins s σ H _ I h) fun v s1 hQ' => ?_)
  obtain ⟨x, H1, I1, r1, q1⟩ := hQ'
  refine wpAny_Slice (thn (hl pins s1 σ H1 _ I1 q1) fun vl s2 ⟨l, H2, I2, pl, q2⟩ => thn (hu pins s2 σ H2 _ I2 q2) fun vu s3 hQ' => ?_)
  obtain ⟨u, H3, I3, pu, q3⟩ := hQ'
  rw [evalPart_none]
  refine wpAny_pure ?_
  have I4 : Inv X pins σ H3 { s3 with heap := s3.heap.push { cls := .type "slice", data := .fields #[vl, vu, .none] } } := I3.kept (t' := s3.toks) fun b ob q => Heap.get?_push_of_some _ q
  obtain ⟨T, id, hT, ht, hg⟩ := hr pins { s3 with heap := s3.heap.push { cls := .type "slice", data := .fields #[vl, vu, .none] } } σ H3 x v vl vu l u s3.heap.objs.size Q I4 r1 (Heap.IsSliceOf.new ..) pl pu q3
  show wpAny (model X.prog X.w) X.A (subscriptTail e (.Slice lo hi none p2) v (.ref s3.heap.objs.size)) (EP X pins σ Q) X.xe { s3 with heap := s3.heap.push { cls := .type "slice", data := .fields #[vl, vu, .none] } }
  exact tail_any (ops := [.ref s3.heap.objs.size, v]) ht hT hg (by with_unfolding_all rfl)
def cutV (xs : List V) (lo hi : Option Int) : List V := (xs.drop (HT.sIx xs.length 0 lo)).take (HT.sIx xs.length xs.length hi - HT.sIx xs.length 0 lo)
theorem cutV_length (xs : List V) (lo hi : Option Int) : (cutV xs lo hi).length ≤ xs.length := by
  unfold cutV
  rw [List.length_take, List.length_drop]
  (first|lia|omega)
def rSlT (K : PySem.W.Frag) : V → Option Int → Option Int → Hp → VK → Prop := fun x lo hi H Q => ∃ a xs, x = .ref a ∧ SqT K H a xs ∧
  ¬ (HT.sIx xs.length 0 lo = 0 ∧ HT.sIx xs.length xs.length hi = xs.length) ∧ ∀ p, H p = none → Q (.ref p) (upd H p (.tup (cutV xs lo hi)))
theorem sl_tup : SlR X (rSlT X.K) := by
  intro pins s σ H x v vl vu lo hi sl Q I rx hs pl pu h
  obtain ⟨a, xs, rfl, hx, hw, q⟩ := h
  cases rx
  obtain ⟨its, r, ht, hz⟩ := I.tuple hx
  have hlen : its.toArray.size = xs.length := by rw [List.size_toArray]; exact r.length.symm
  refine ⟨"tuple", _, PyProof.Rows.slot_tuple_getitem.lookup, ht.typeIs, ?_⟩
  refine HT.getItem_tuple_cut ht hs pl pu (by rw [hlen]; exact hw) ?_ (by rw [hlen]; exact hz)
  rw [hlen]
  refine ⟨.ref s.heap.objs.size, _, I.laid (t' := s.toks) (o := .tup (cutV xs lo hi)) (fun b ob q => Heap.get?_push_of_some _ q) (Nat.le_refl _) ?_, rfl, q _ (I.hok.fresh (Nat.le_refl _))⟩
  exact ⟨Nat.le_trans (cutV_length xs lo hi) hz, _, (r.drop (HT.sIx xs.length 0 lo)).take (HT.sIx xs.length xs.length hi - HT.sIx xs.length 0 lo), IsTup.new _ _⟩
def rCatT (K : PySem.W.Frag) : R2 := fun x y H Q => ∃ a b xs ys, x = .ref a ∧ y = .ref b ∧ SqT K H a xs ∧ SqT K H b ys ∧ xs ≠ [] ∧ xs.length + ys.length ≤ sizeLine ∧
  (ys = [] → Q (.ref a) H) ∧ (ys ≠ [] → ∀ p, H p = none → Q (.ref p) (upd H p (.tup (xs ++ ys))))
theorem Vals.nil_iff {xs : List V} {us : List Value} (r : Vals xs us) : us = [] ↔ xs = [] := by
  cases r with
  | nil => simp
  | cons _ _ => simp
theorem op_catT : OpR X (binaryOp .Add) (rCatT X.K) := by
  intro pins s σ H x y v u Q I rx ry h
  obtain ⟨a, b, xs, ys, rfl, rfl, ha, hb, hx, hz, q1, q2⟩ := h
  cases rx
  cases ry
  obtain ⟨its, r1, p1, _⟩ := I.tuple ha
  obtain ⟨its2, r2, p2, _⟩ := I.tuple hb
  refine HT.cat_tup p1 p2 (fun z => hx (r1.nil_iff.mp z)) (fun z => ⟨.ref a, H, I, rfl, q1 (r2.nil_iff.mp z)⟩) (fun z => ?_) (by rw [← r1.length, ← r2.length]; exact hz)
  refine ⟨.ref s.heap.objs.size, _, I.laid (t' := s.toks) (o := .tup (xs ++ ys)) (fun b ob q => Heap.get?_push_of_some _ q) (Nat.le_refl _) ?_, rfl, q2 (fun w => z (r2.nil_iff.mpr w)) _ (I.hok.fresh (Nat.le_refl _))⟩
  exact ⟨by rw [List.length_append]; exact hz, _, r1.append r2, IsTup.new _ _⟩
end
end L2
namespace L2
open PySem PySem.Spec PyProof.Rows
def ixN (n : Nat) (i : Int) : Option Nat := if 0 ≤ i then (if i < n then some i.toNat else none) else if -(n : Int) ≤ i then some (i + n).toNat else none
def atI {α : Type} (xs : List α) (i : Int) : Option α := (ixN xs.length i).bind fun j => xs[j]?
theorem ixN_seq {n : Nat} {i : Int} {j : Nat} (h : ixN n i = some j) : seqIndex? i n = some j ∧ j < n ∧ -(n : Int) ≤ i ∧ i < n := by
  unfold ixN at h
  by_cases h0 : 0 ≤ i
  · rw [if_pos h0] at h
    by_cases h1 : i < n
    · rw [if_pos h1] at h
      have e : i.toNat = j := Option.some.inj h
      exact ⟨by rw [seqIndex_of h0 h1, e], by (first|lia|omega), by (first|lia|omega), h1⟩
    · rw [if_neg h1] at h; cases h
  · rw [if_neg h0] at h
    by_cases h1 : -(n : Int) ≤ i
    · rw [if_pos h1] at h
      have e : (i + n).toNat = j := Option.some.inj h
      exact ⟨by rw [seqIndex_neg (by (first|lia|omega)) h1, e], by (first|lia|omega), h1, by (first|lia|omega)⟩
    · rw [if_neg h1] at h; cases h
theorem atI_get {α : Type} {xs : List α} {i : Int} {v : α} (h : atI xs i = some v) : ∃ j, seqIndex? i xs.length = some j ∧ xs[j]? = some v ∧ j < xs.length ∧ -(xs.length : Int) ≤ i ∧ i < xs.length := by
  unfold atI at h
  cases e : ixN xs.length i with
  | none => rw [e] at h; cases h
  | some j =>
    rw [e] at h
    obtain ⟨h1, h2, h3, h4⟩ := ixN_seq e
    exact ⟨j, h1, h, h2, h3, h4⟩
theorem atI_nat {α : Type} {xs : List α} {j : Nat} {v : α} (h : xs[j]? = some v) : atI xs (j : Int) = some v := by
  have hj : j < xs.length := (List.getElem?_eq_some_iff.mp h).1
  have e : ixN xs.length (j : Int) = some j := by
    unfold ixN
    rw [if_pos (by (first|lia|omega)), if_pos (by (first|lia|omega))]; simp
  unfold atI; rw [e]; exact h
def PlainIx (b : Expr) : Prop := ∀ o i, subscripted b false o i = operate [o, i] (getItem o i)
def IxR (X : Cx) (r : R2) : Prop :=
  ∀ (value slice : Expr) (pins : List (Addr × Obj)) (s : Shared) (σ : St) (H : Hp) (x y : V) (v u : Value) (Q : VK), Inv X pins σ H s → RelV x v → RelV y u → r x y H Q →
    subscripted slice false v u = operate [v, u] (getItem v u) → wpAny (model X.prog X.w) X.A (subscriptTail value slice v u) (EP X pins σ Q) X.xe s
def MtR (X : Cx) (id : String) (r : V → List V → Hp → VK → Prop) : Prop :=
  ∀ (pins : List (Addr × Obj)) (s : Shared) (σ : St) (H : Hp) (x : V) (xs : List V) (v : Value) (us : List Value) (Q : VK), Inv X pins σ H s → RelV x v → Vals xs us → r x xs H Q →
    wpAny (model X.prog X.w) X.A (call (.builtin id) (v :: us)) (EP X pins σ Q) X.xe s
section
variable {X : Cx} {a b : Expr} {ta tb : TE} {pos : Pos}
theorem pe_ix {r : R2} (hr : IxR X r) (ha : PE X a ta) (hb : PE X b tb) (hs : PlainIx b) : PE X (.Subscript a b pos) (tOp r ta tb) := by
  intro pins s σ H Q I h
  exact Subscript_ (binT ha hb I h fun v u s2 x y H2 I2 rx ry q => hr a b pins s2 σ H2 x y v u Q I2 rx ry q (hs _ _))
def rIxL (K : PySem.W.Frag) : R2 := fun x y H Q => ∃ p xs i v, x = .ref p ∧ y = .int i ∧ SqL K H p xs ∧ atI xs i = some v ∧ Q v H
def rIxT (K : PySem.W.Frag) : R2 := fun x y H Q => ∃ p xs i v, x = .ref p ∧ y = .int i ∧ SqT K H p xs ∧ atI xs i = some v ∧ Q v H
theorem ix_list : IxR X (rIxL X.K) := by
  intro value slice pins s σ H x y v u Q I rx ry h hs
  obtain ⟨p, xs, i, z, rfl, rfl, hq, he, q⟩ := h
  cases rx
  obtain ⟨t, rfl⟩ := ry
  obtain ⟨its, r, pl, hz⟩ := I.list hq
  obtain ⟨j, h1, h2, h3, h4, h5⟩ := atI_get he
  obtain ⟨w, ew, rw'⟩ := r.get h2
  have hl := r.length
  have hn := line63
  have fin : EP X pins σ Q w s := ⟨z, H, I, rw', q⟩
  by_cases h0 : 0 ≤ i
  · have hj : i.toNat = j := by
      rw [seqIndex_of h0 h5] at h1
      exact Option.some.inj h1
    exact item_listR pl.isList h0 (by (first|lia|omega)) (by rw [hj]; simpa using ew) fin hs
  · have hj : (i + (its.toArray.size : Int)).toNat = j := by
      rw [seqIndex_neg (by (first|lia|omega)) h4] at h1
      rw [List.size_toArray, ← hl]
      exact Option.some.inj h1
    exact subscriptTail_builtinR (x := w) pl.isList.typeIs slot_list_getitem.lookup
      (wpAny_getItem_list_neg (Q := fun r s' => r = w ∧ EP X pins σ Q r s') pl.isList (by (first|lia|omega)) (by rw [List.size_toArray] <;> (first|lia|omega)) (by (first|lia|omega)) (by rw [hj]; simpa using ew) ⟨rfl, fin⟩) hs
theorem ix_tup : IxR X (rIxT X.K) := by
  intro value slice pins s σ H x y v u Q I rx ry h hs
  obtain ⟨p, xs, i, z, rfl, rfl, hq, he, q⟩ := h
  cases rx
  obtain ⟨t, rfl⟩ := ry
  obtain ⟨its, r, pl, hz⟩ := I.tuple hq
  obtain ⟨j, h1, h2, h3, h4, h5⟩ := atI_get he
  obtain ⟨w, ew, rw'⟩ := r.get h2
  have hl := r.length
  have hn := line63
  have fin : EP X pins σ Q w s := ⟨z, H, I, rw', q⟩
  exact subscriptTail_builtinR (x := w) pl.typeIs slot_tuple_getitem.lookup
    (getItem_tuple (j := j) (Q := fun r s' => r = w ∧ EP X pins σ Q r s') pl (by (first|lia|omega)) (by (first|lia|omega)) (by rw [List.size_toArray, ← hl]; exact h1) (by simpa using ew) ⟨rfl, fin⟩) hs
theorem slice_bounds (lo hi : Option Int) (n : Nat) : (sliceBounds lo hi none n).1 = ((HT.sIx n 0 lo : Nat) : Int) ∧ (sliceBounds lo hi none n).2.1 = ((HT.sIx n n hi : Nat) : Int) ∧ (sliceBounds lo hi none n).2.2 = 1 := by
  refine ⟨?_, ?_, rfl⟩
  · cases lo with
    | none => simp [sliceBounds, HT.sIx]
    | some i =>
      simp only [sliceBounds,HT.sIx,Option.getD_none,show (1 : Int) > 0 by decide,if_true]
      by_cases h : i < 0
      · simp only [h,if_true] <;> (first|lia|omega)
      · simp only [h,if_false] <;> (first|lia|omega)
  · cases hi with
    | none => simp [sliceBounds, HT.sIx]
    | some i =>
      simp only [sliceBounds,HT.sIx,Option.getD_none,show (1 : Int) > 0 by decide,if_true]
      by_cases h : i < 0
      · simp only [h,if_true] <;> (first|lia|omega)
      · simp only [h,if_false] <;> (first|lia|omega)
theorem slicePick_cut (its : List Value) (lo hi : Option Int) : slicePick its.toArray lo hi none = ((its.drop (HT.sIx its.length 0 lo)).take (HT.sIx its.length its.length hi - HT.sIx its.length 0 lo)).toArray := by
  obtain ⟨h1, h2, h3⟩ := slice_bounds lo hi its.toArray.size
  unfold slicePick
  rw [h1, h2, h3]
  simp only [sliceRange_one,pick_run,List.size_toArray] <;> rfl
def rSlL (K : PySem.W.Frag) : V → Option Int → Option Int → Hp → VK → Prop := fun x lo hi H Q => ∃ a xs, x = .ref a ∧ SqL K H a xs ∧ ∀ p, H p = none → Q (.ref p) (upd H p (.lst (cutV xs lo hi)))
theorem sl_list : SlR X (rSlL X.K) := by
  intro pins s σ H x v vl vu lo hi sl Q I rx hs pl pu h
  obtain ⟨a, xs, rfl, hx, q⟩ := h
  cases rx
  obtain ⟨its, r, ht, hz⟩ := I.list hx
  have hlen := r.length
  refine ⟨"list", _, slot_list_getitem.lookup, ht.isList.typeIs, ?_⟩
  refine wpAny_getItem_list_slice ht.isList hs pl pu .none (by simp) ?_ (by rw [List.size_toArray] <;> (first|lia|omega))
  rw [slicePick_cut, ← hlen]
  refine ⟨.ref s.heap.objs.size, _, I.laid (t' := s.toks) (o := .lst (cutV xs lo hi)) (fun b ob q => Heap.get?_push_of_some _ q) (Nat.le_refl _) ?_, rfl, q _ (I.hok.fresh (Nat.le_refl _))⟩
  exact ⟨Nat.le_trans (cutV_length xs lo hi) hz, _, 0, (r.drop (HT.sIx xs.length 0 lo)).take (HT.sIx xs.length xs.length hi - HT.sIx xs.length 0 lo), Heap.get?_push_size _ rfl⟩
def flatV : V → Bool
  | .non => true
  | .bl _ => true
  | .int _ => true
  | .str _ => true
  | _ => false
def eqV : V → V → Bool
  | .non, .non => true
  | .bl a, .bl b => a == b
  | .bl a, .int b => (if a then 1 else 0) == b
  | .int a, .bl b => a == (if b then 1 else 0)
  | .int a, .int b => a == b
  | .str a, .str b => a == b
  | _, _ => false
theorem eqAt_V {A : Around} {s : Shared} {y x : V} {u v : Value} (ry : RelV y u) (rx : RelV x v) (fy : flatV y = true) (fx : flatV x = true) : SeqAt.EqAt A s u v (eqV y x) := by
  cases y with
  | non =>
    cases ry
    cases x with
    | non => cases rx; exact SeqAt.EqAt.same _
    | bl b => cases rx; exact SeqAt.EqAt.none_bool b
    | int b => obtain ⟨t, rfl⟩ := rx; exact SeqAt.EqAt.none_int b t
    | str b => obtain ⟨t, rfl⟩ := rx; exact SeqAt.EqAt.none_str b t
    | _ => exact absurd (show false = true from fx) Bool.false_ne_true
  | bl a =>
    cases ry
    cases x with
    | non => cases rx; exact SeqAt.EqAt.bool_none a
    | bl b => cases rx; exact SeqAt.EqAt.bool_bool a b
    | int b => obtain ⟨t, rfl⟩ := rx; exact SeqAt.EqAt.bool_int a b t
    | str b => obtain ⟨t, rfl⟩ := rx; exact SeqAt.EqAt.bool_str a b t
    | _ => exact absurd (show false = true from fx) Bool.false_ne_true
  | int a =>
    obtain ⟨t', rfl⟩ := ry
    cases x with
    | non => cases rx; exact SeqAt.EqAt.int_none a t'
    | bl b => cases rx; exact SeqAt.EqAt.int_bool a t' b
    | int b => obtain ⟨t, rfl⟩ := rx; exact SeqAt.EqAt.int_int a t' b t
    | str b => obtain ⟨t, rfl⟩ := rx; exact SeqAt.EqAt.int_str a t' b t
    | _ => exact absurd (show false = true from fx) Bool.false_ne_true
  | str a =>
    obtain ⟨t', rfl⟩ := ry
    cases x with
    | non => cases rx; exact SeqAt.EqAt.str_none a t'
    | bl b => cases rx; exact SeqAt.EqAt.str_bool a t' b
    | int b => obtain ⟨t, rfl⟩ := rx; exact SeqAt.EqAt.str_int a t' b t
    | str b => obtain ⟨t, rfl⟩ := rx; exact SeqAt.EqAt.str_str a t' b t
    | _ => exact absurd (show false = true from fx) Bool.false_ne_true
  | _ => exact absurd (show false = true from fy) Bool.false_ne_true
def eqU (x : V) (u : Value) : Bool := match u with
  | .none => eqV .non x
  | .bool b => eqV (.bl b) x
  | .int i _ => eqV (.int i) x
  | .str z _ => eqV (.str z) x
  | _ => false
theorem eqU_of {x y : V} {u : Value} (r : RelV y u) (f : flatV y = true) : eqU x u = eqV y x := by
  cases y with
  | non => cases r; rfl
  | bl b => cases r; rfl
  | int i => obtain ⟨t, rfl⟩ := r; rfl
  | str z => obtain ⟨t, rfl⟩ := r; rfl
  | _ => exact absurd (show false = true from f) Bool.false_ne_true
theorem any_eqU {x : V} : ∀ {xs : List V} {us : List Value}, Vals xs us → xs.all flatV = true → us.any (eqU x) = xs.any fun y => eqV y x
  | _, _, .nil, _ => rfl
  | y :: xs, u :: us, .cons r t, f => by
    rw [List.all_cons, Bool.and_eq_true] at f
    rw [List.any_cons, List.any_cons, eqU_of r f.1, any_eqU t f.2]
theorem mem_eqAt {A : Around} {s : Shared} {x : V} {v : Value} (rx : RelV x v) (fx : flatV x = true) : ∀ {xs : List V} {us : List Value}, Vals xs us → xs.all flatV = true → ∀ u ∈ us, SeqAt.EqAt A s u v (eqU x u)
  | _, _, .nil, _ => fun u hu => by cases hu
  | y :: xs, u :: us, .cons r t, f => fun u' hu => by
    rw [List.all_cons, Bool.and_eq_true] at f
    rcases List.mem_cons.mp hu with rfl | hu
    · rw [eqU_of r f.1]; exact eqAt_V r rx f.1 fx
    · exact mem_eqAt rx fx t f.2 u' hu
def inV (x : V) (xs : List V) : Bool := xs.any fun y => eqV y x
def rIn (K : PySem.W.Frag) (neg : Bool) : R2 := fun x y H Q => ∃ p xs, y = .ref p ∧ (SqL K H p xs ∨ SqT K H p xs) ∧ flatV x = true ∧ xs.all flatV = true ∧ Q (.bl (if neg then !inV x xs else inV x xs)) H
theorem op_in_seq : OpR X (compareOp .In) (rIn X.K false) := by
  intro pins s σ H x y v u Q I rx ry h
  obtain ⟨p, xs, rfl, hq, fx, fs, q⟩ := h
  cases ry
  rcases hq with hq | hq
  · obtain ⟨its, r, pl, hz⟩ := I.list hq
    refine SeqAt.in_listAt (eqU x) pl.isList (fun w hw => mem_eqAt rx fx r fs w (by simpa using hw)) ⟨.bl _, H, I, rfl, ?_⟩
    rw [show its.toArray.any (eqU x) = its.any (eqU x) by simp, any_eqU r fs]
    exact q
  · obtain ⟨its, r, pl, hz⟩ := I.tuple hq
    refine SeqAt.in_tupleAt (eqU x) pl (fun w hw => mem_eqAt rx fx r fs w (by simpa using hw)) ⟨.bl _, H, I, rfl, ?_⟩
    rw [show its.toArray.any (eqU x) = its.any (eqU x) by simp, any_eqU r fs]
    exact q
theorem call_len_seq : CallR X (.builtin "len") (fun xs H Q => ∃ p ys, xs = [.ref p] ∧ (SqL X.K H p ys ∨ SqT X.K H p ys) ∧ Q (.int ys.length) H) := by
  intro pins s σ H xs us Q I r h
  obtain ⟨p, ys, rfl, hq, q⟩ := h
  obtain ⟨u, rfl, rx⟩ := vals1 r
  cases rx
  have hn := line63
  rcases hq with hq | hq
  · obtain ⟨its, r', pl, hz⟩ := I.list hq
    have hlen := r'.length
    exact Calls.call_len_list pl.isList (by simp only [List.size_toArray] <;> (first|lia|omega)) ⟨.int ys.length, H, I.tok _, ⟨s.toks + 1, by rw [List.size_toArray, hlen]⟩, q⟩
  · obtain ⟨its, r', pl, hz⟩ := I.tuple hq
    have hlen := r'.length
    exact len_tuple pl (by simp only [List.size_toArray] <;> (first|lia|omega)) ⟨.int ys.length, H, I.tok _, ⟨s.toks + 1, by rw [List.size_toArray, hlen]⟩, q⟩
theorem call_list_of : CallR X (.type "list") (fun xs H Q => ∃ p ys, xs = [.ref p] ∧ (SqL X.K H p ys ∨ SqT X.K H p ys) ∧ ∀ l, H l = none → Q (.ref l) (upd H l (.lst ys))) := by
  intro pins s σ H xs us Q I r h
  obtain ⟨p, ys, rfl, hq, q⟩ := h
  obtain ⟨u, rfl, rx⟩ := vals1 r
  cases rx
  have fin : ∀ (its : List Value), Vals ys its → ys.length ≤ sizeLine → ∀ (h' : Heap) (c' : Nat), (∀ b o', s.heap.get? b = some o' → h'.get? b = some o') →
      h'.get? s.heap.objs.size = some { cls := .type "list", dict := none, data := .seq its.toArray c', slots := #[] } → EP X pins σ Q (.ref s.heap.objs.size) { s with heap := h' } := fun its r' hz h' c' kp e =>
    ⟨.ref s.heap.objs.size, _, I.laid (t' := s.toks) kp (Nat.le_refl _) (show ObjOk X.prog X.w _ h' _ (.lst ys) from ⟨hz, its, c', r', e⟩), rfl, q _ (I.hok.fresh (Nat.le_refl _))⟩
  rcases hq with hq | hq
  · obtain ⟨its, r', pl, hz⟩ := I.list hq
    have hlen := r'.length
    obtain ⟨o, ho, hc, n, hd⟩ := pl.isList
    exact call_list_seq p (.inl rfl) ho hc hd (fun h' c' kp e => fin its r' hz h' c' kp e) (by simp only [List.size_toArray] <;> (first|lia|omega))
  · obtain ⟨its, r', pl, hz⟩ := I.tuple hq
    have hlen := r'.length
    obtain ⟨o, ho, hc, n, hd⟩ := pl
    exact call_list_seq p (.inr rfl) ho hc hd (fun h' c' kp e => fin its r' hz h' c' kp e) (by simp only [List.size_toArray] <;> (first|lia|omega))
def tyV (K : PySem.W.Frag) (T : String) (x : V) (H : Hp) : Prop := match x with
  | .str _ => T = "str"
  | .int _ => T = "int"
  | .ref p => (T = "list" ∧ ∃ xs, SqL K H p xs) ∨ (T = "tuple" ∧ ∃ o, K.lookup p = some o ∧ o.cls = .type "tuple" ∧ o.dict = none) ∨
      (T = "dict" ∧ ((∃ kvs, H p = some (.dK kvs)) ∨ ∃ kvs, H p = some (.dT kvs))) ∨ (T = "set" ∧ ∃ S n, H p = some (.set S n))
  | _ => False
theorem tyV_is {pins : List (Addr × Obj)} {σ : St} {H : Hp} {s : Shared} {T : String} {x : V} {v : Value} (I : Inv X pins σ H s) (r : RelV x v) (ty : tyV X.K T x H) :
    s.TypeIs v T ∧ ∀ a, v = .ref a → ∃ ob, s.heap.get? a = some ob ∧ ob.dict = none := by
  cases x with
  | str z =>
    obtain ⟨t, rfl⟩ := r
    cases (show T = "str" from ty)
    exact ⟨typeIs_str s z t, fun _ e => nomatch e⟩
  | int i =>
    obtain ⟨t, rfl⟩ := r
    cases (show T = "int" from ty)
    exact ⟨typeIs_int s i t, fun _ e => nomatch e⟩
  | ref p =>
    cases r
    rcases ty with ⟨rfl, xs, hq⟩ | ⟨rfl, o, hk, hc, hd⟩ | ⟨rfl, hk⟩ | ⟨rfl, S, n, hk⟩
    · obtain ⟨its, _, pl, _⟩ := I.list hq
      refine ⟨pl.isList.typeIs, fun a e => ?_⟩
      cases e
      obtain ⟨o, n, e, c, hd, _⟩ := pl
      exact ⟨o, e, hd⟩
    · refine ⟨⟨o, I.kIn p o hk, hc⟩, fun a e => ?_⟩
      cases e
      exact ⟨o, I.kIn _ o hk, hd⟩
    · have z : ∃ o, s.heap.get? p = some o ∧ o.ExactDict := by
        rcases hk with ⟨kvs, hk⟩ | ⟨kvs, hk⟩
        · obtain ⟨_, _, _, _, o, _, _, e, ex, _⟩ := I.hok p _ hk
          exact ⟨o, e, ex⟩
        · obtain ⟨_, _, _, _, o, _, _, e, ex, _⟩ := I.hok p _ hk
          exact ⟨o, e, ex⟩
      obtain ⟨o, e, ex⟩ := z
      refine ⟨⟨o, e, ex.1⟩, fun a e2 => ?_⟩
      cases e2
      exact ⟨o, e, ex.2.1⟩
    · obtain ⟨o, _, _, _, e, ex, _⟩ := I.hok p _ hk
      refine ⟨⟨o, e, ex.1⟩, fun a e2 => ?_⟩
      cases e2
      exact ⟨o, e, ex.2.1⟩
  | _ => exact False.elim ty
def tBM (K : PySem.W.Frag) (T : String) (r : V → List V → Hp → VK → Prop) (to : TE) (t : TA) : TE := fun σ H Q => to σ H fun x H1 => tyV K T x H1 ∧ t σ H1 fun xs H2 => r x xs H2 Q
variable {o e : Expr} {es : List Expr} {to : TE} {t : TA} {name : Str} {apos cpos : Pos} {T id : String} {r : V → List V → Hp → VK → Prop}
theorem pe_bm (pa : PlainAttrs T) (slot : Slot T name id) (hty : typeOf (.builtin id) = pure (.type "method_descriptor")) (hm : MtR X id r) (ho : PE X o to) (ha : PA X (e :: es) t)
    (hbase : attributeBase o name X.env (eval o X.env) = eval o X.env := by rfl)
    (hfew : ((backTo cpos (starEach (e :: es) X.env)).all (fun x => !x.1) && (backToKw cpos (keywordEach [] X.env)).all (fun x => x.1.isSome)
      && decide ((e :: es).length + ([] : List Keyword).length + (if ([] : List Keyword).isEmpty then 0 else 1) < 30)) = true := by rfl)
    (hline : (apos.endLine == cpos.line) = true := by rfl) (hs : starEach (e :: es) X.env = (false, eval e X.env) :: starEach es X.env := by rfl) (hplain : (backTo cpos (starEach es X.env)).any (·.1) = false := by rfl) :
    PE X (.Call (.Attribute o name apos) (e :: es) [] cpos) (tBM X.K T r to t) := by
  intro pins s σ H Q I h
  refine wpAny_Call_method_late hbase hfew hline rfl (thn (ho pins s σ H _ I h) fun v s1 hQ' => ?_)
  obtain ⟨x, H1, I1, r1, ty, q1⟩ := hQ'
  obtain ⟨h1, h2⟩ := tyV_is I1 r1 ty
  refine ⟨T, id, pa, slot, hty, h1, h2, ?_⟩
  have hA := ha cpos pins s1 σ H1 _ I1 q1
  rw [hs] at hA ⊢
  refine Calls.callWith_builtin (by show (false || (backTo cpos (starEach es X.env)).any (·.1)) = false; rw [hplain] <;> rfl) (Calls.evalArgs_plain ?_)
  exact thn hA fun us s2 ⟨vs, H2, I2, r2, q2⟩ => hm pins s2 σ H2 x vs v us Q I2 r1 r2 q2
/- xs.append(e), list.index on a module's tuple .. are MtR facts of 06m -/
end
end L2
namespace L2
open PySem PySem.Spec PyProof.Rows
def MtM (X : Cx) (id : String) (r : V → List V → Hp → VK → Prop) : Prop :=
  ∀ (pins : List (Addr × Obj)) (s : Shared) (σ : St) (H : Hp) (x : V) (xs : List V) (v : Value) (us : List Value) (Q : VK), Inv X pins σ H s → RelV x v → Vals xs us → r x xs H Q →
    wpAny (model X.prog X.w) X.A (call (.builtin id) (v :: us)) (EP X pins σ Q) X.xe s
theorem Vals.one : ∀ {x : V} {us : List Value}, Vals [x] us → ∃ u, us = [u] ∧ RelV x u
  | _, _, .cons r .nil => ⟨_, rfl, r⟩
theorem Vals.two : ∀ {x y : V} {us : List Value}, Vals [x, y] us → ∃ u v, us = [u, v] ∧ RelV x u ∧ RelV y v
  | _, _, _, .cons r (.cons q .nil) => ⟨_, _, rfl, r, q⟩
theorem Vals.eraseIdx : ∀ {xs : List V} {us : List Value} (i : Nat), Vals xs us → Vals (xs.eraseIdx i) (us.eraseIdx i)
  | _, _, _, .nil => .nil
  | _, _, 0, .cons _ t => t
  | _, _, i + 1, .cons r t => .cons r (Vals.eraseIdx i t)
theorem Vals.reverse {xs : List V} {us : List Value} (h : Vals xs us) : Vals xs.reverse us.reverse := by
  induction h with
  | nil => exact .nil
  | cons r t ih => rw [List.reverse_cons, List.reverse_cons]; exact Vals.append ih (.cons r .nil)
theorem Vals.rep {xs : List V} {us : List Value} (h : Vals xs us) : ∀ k : Nat, Vals (List.replicate k xs).flatten (List.replicate k us).flatten
  | 0 => .nil
  | k + 1 => by
    rw [List.replicate_succ, List.replicate_succ, List.flatten_cons, List.flatten_cons]
    exact Vals.append h (Vals.rep h k)
theorem len_erase {α : Type} : ∀ (l : List α) (i : Nat), (l.eraseIdx i).length ≤ l.length
  | [], _ => Nat.le_refl _
  | _ :: _, 0 => Nat.le_succ _
  | _ :: r, i + 1 => Nat.succ_le_succ (len_erase r i)
theorem foldl_rep (its : List Value) : ∀ (k : Nat) (acc : List Value),
    List.foldl (fun x1 x2 => x1 ++ x2) acc.toArray (List.replicate k its.toArray) = (acc ++ (List.replicate k its).flatten).toArray
  | 0, acc => by simp
  | k + 1, acc => by
    have e : acc.toArray ++ its.toArray = (acc ++ its).toArray := by simp
    have e2 : (acc ++ its) ++ (List.replicate k its).flatten = acc ++ (List.replicate (k + 1) its).flatten := by
      rw [List.replicate_succ, List.flatten_cons, List.append_assoc]
    rw [← e2, ← foldl_rep its k (acc ++ its), ← e, List.replicate_succ, List.foldl_cons]
section
variable {X : Cx} {pins : List (Addr × Obj)} {σ : St} {H : Hp} {s : Shared} {l b : Addr} {xs ys zs : List V}
theorem Inv.lset {its its' : List Value} {n : Nat} {f : Array Value → Array Value} {t' : Nat} (I : Inv X pins σ H s) (hH : H l = some (.lst xs))
    (e : s.heap.get? l = some { cls := .type "list", data := .seq its.toArray n }) (hf : f its.toArray = its'.toArray) (hv : Vals ys its') (hz : ys.length ≤ sizeLine) :
    Inv X pins σ (upd H l (.lst ys)) { s with heap := s.heap.update l (Obj.mapSeq f), toks := t' } := by
  have q := PySem.IsL.update e f
  rw [hf] at q
  refine I.write (x := l) (e := l) (by rw [hH]; exact trivial) (.inl rfl) (fun b' u hb hu => (Heap.get?_update_other s.heap (Obj.mapSeq f) (Ne.symm hb)).trans hu) ⟨_, q⟩ ?_
  exact ⟨hz, its', _, hv, q⟩
theorem Inv.lnew {its : List Value} {t' : Nat} (I : Inv X pins σ H s) (hv : Vals ys its) (hz : ys.length ≤ sizeLine) :
    Inv X pins σ (upd H s.heap.objs.size (.lst ys)) { s with heap := s.heap.push { cls := .type "list", data := .seq its.toArray }, toks := t' } :=
  I.laid (fun _ _ q => Heap.get?_push_of_some _ q) (Nat.le_refl _) ⟨hz, its, 0, hv, Heap.get?_push_size _ rfl⟩
theorem Inv.fresh (I : Inv X pins σ H s) : H s.heap.objs.size = none := I.hok.fresh (Nat.le_refl _)
theorem Inv.lstM (I : Inv X pins σ H s) (hH : H l = some (.lst xs)) : xs.length ≤ sizeLine ∧ ∃ (its : List Value) (n : Nat), Vals xs its ∧ xs.length = its.length ∧ s.heap.get? l = some { cls := .type "list", data := .seq its.toArray n } := by
  obtain ⟨z, its, n, r, e⟩ := I.hok l _ hH
  exact ⟨z, its, n, r, r.length, e⟩
theorem notLongL {n : Nat} (h : n ≤ sizeLine) : Builtin.List.listTooLong n = false := by
  unfold Builtin.List.listTooLong
  exact decide_eq_false (by (first|lia|omega))
end
section
variable {X : Cx}
def rAppend : V → List V → Hp → VK → Prop := fun x vs H Q => ∃ l xs y, x = .ref l ∧ vs = [y] ∧ H l = some (.lst xs) ∧ xs.length < sizeLine ∧ Q .non (upd H l (.lst (xs ++ [y])))
theorem mt_append : MtM X "list.append" rAppend := by
  intro pins s σ H x vs v us Q I rx rv h
  obtain ⟨l, xs, y, rfl, rfl, hH, hz, q⟩ := h
  cases rx
  obtain ⟨u, rfl, ru⟩ := rv.one
  obtain ⟨z, its, n, r, hl, e⟩ := I.lstM hH
  refine call_meets F.slot_list_append ⟨_, e, rfl⟩ F.entry_list_append (F.args_list_append_2 _ _) (PySem.list_append l its.toArray n u (by rw [List.size_toArray]; (first|lia|omega))) ⟨e, ?_⟩
  refine ⟨.non, _, I.lset (its' := its ++ [u]) hH e (by simp) (r.append (.cons ru .nil)) ?_, rfl, q⟩
  rw [List.length_append, List.length_singleton]
  (first|lia|omega)
def rPopAt : V → List V → Hp → VK → Prop := fun x vs H Q => ∃ l xs i k y, x = .ref l ∧ vs = [.int i] ∧ H l = some (.lst xs) ∧ -(2 ^ 63) ≤ i ∧ i < 2 ^ 63 ∧ seqIndex? i xs.length = some k ∧ xs[k]? = some y ∧ Q y (upd H l (.lst (xs.eraseIdx k)))
theorem mt_popAt : MtM X "list.pop" rPopAt := by
  intro pins s σ H x vs v us Q I rx rv h
  obtain ⟨l, xs, i, k, y, rfl, rfl, hH, h1, h2, hk, hy, q⟩ := h
  cases rx
  obtain ⟨u, rfl, ru⟩ := rv.one
  obtain ⟨t, rfl⟩ := ru
  obtain ⟨z, its, n, r, hl, e⟩ := I.lstM hH
  obtain ⟨w, hw, rw'⟩ := r.get hy
  refine call_meets F.slot_list_pop ⟨_, e, rfl⟩ F.entry_list_pop (F.args_list_pop_2 _ _)
    (MeetsSeq.list_pop_at l its.toArray n i t k w (fitsIndex_both h1 h2) (by rw [List.size_toArray, ← hl]; exact hk) (by rw [← Array.getElem?_toList]; exact hw) (by rw [List.size_toArray]; (first|lia|omega))) ⟨e, ?_⟩
  refine ⟨y, _, I.lset (its' := its.eraseIdx k) hH e ?_ (r.eraseIdx k) ?_, rw', q⟩
  · show its.toArray.eraseIdxIfInBounds k = (its.eraseIdx k).toArray
    rw [List.eraseIdxIfInBounds_toArray]
  · have := len_erase xs k
    (first|lia|omega)
def rCat : R2 := fun x y H Q => ∃ l b xs zs, x = .ref l ∧ y = .ref b ∧ H l = some (.lst xs) ∧ H b = some (.lst zs) ∧ xs.length + zs.length ≤ sizeLine ∧ ∀ p, H p = none → Q (.ref p) (upd H p (.lst (xs ++ zs)))
theorem op_cat : OpR X (binaryOp .Add) rCat := by
  intro pins s σ H x y v u Q I rx ry h
  obtain ⟨l, b, xs, zs, rfl, rfl, hH, hB, hz, q⟩ := h
  cases rx
  cases ry
  obtain ⟨z, its, n, r, hl, e⟩ := I.lstM hH
  obtain ⟨z2, its2, n2, r2, hl2, e2⟩ := I.lstM hB
  refine PySem.P.add_list e e2 ?_ (by rw [List.size_toArray, List.size_toArray]; (first|lia|omega))
  have ea : its.toArray ++ its2.toArray = (its ++ its2).toArray := by simp
  rw [ea]
  exact ⟨.ref _, _, I.lnew (t' := s.toks) (r.append r2) (by rw [List.length_append]; (first|lia|omega)), rfl, q _ I.fresh⟩
def rRep : R2 := fun x y H Q => ∃ l k xs, x = .ref l ∧ y = .int k ∧ H l = some (.lst xs) ∧ -(2 ^ 63) ≤ k ∧ k < 2 ^ 63 ∧ xs.length * k.toNat ≤ sizeLine ∧
  ∀ p, H p = none → Q (.ref p) (upd H p (.lst (List.replicate k.toNat xs).flatten))
theorem len_rep {α : Type} (xs : List α) (k : Nat) : (List.replicate k xs).flatten.length = k * xs.length := by
  induction k with
  | zero => simp
  | succ k ih => rw [List.replicate_succ, List.flatten_cons, List.length_append, ih, Nat.succ_mul, Nat.add_comm]
theorem op_rep : OpR X (binaryOp .Mult) rRep := by
  intro pins s σ H x y v u Q I rx ry h
  obtain ⟨l, k, xs, rfl, rfl, hH, h1, h2, hz, q⟩ := h
  cases rx
  obtain ⟨t, rfl⟩ := ry
  obtain ⟨z, its, n, r, hl, e⟩ := I.lstM hH
  have hlen : its.toArray.size * k.toNat ≤ sizeLine := by rw [List.size_toArray, ← hl]; exact hz
  have hcap : ¬ its.toArray.size * k.toNat > (2 ^ 63 - 1) / 8 := by
    have : (sizeLine : Nat) ≤ (2 ^ 63 - 1) / 8 := by decide
    (first|lia|omega)
  have hfit : ¬ (!Builtin.List.listFitsIndex k) = true := by
    rw [fitsIndex_both h1 h2]
    exact Bool.false_ne_true
  have hlong : ¬ Builtin.List.listTooLong (its.toArray.size * k.toNat) = true := by
    rw [notLongL hlen]
    exact Bool.false_ne_true
  have hnew : List.foldl (fun x1 x2 => x1 ++ x2) #[] (List.replicate (if its.toArray.isEmpty = true then 0 else k.toNat) its.toArray) = (List.replicate k.toNat its).flatten.toArray := by
    have f0 : ∀ m : Nat, List.foldl (fun x1 x2 => x1 ++ x2) #[] (List.replicate m its.toArray) = (List.replicate m its).flatten.toArray := fun m => by
      have := foldl_rep its m []
      rw [List.nil_append] at this
      exact this
    rw [f0]
    cases its with
    | nil => simp
    | cons a r' => rw [if_neg (by simp)]
  refine wpAny_binaryOp_repeat_ref (T := "list") (U := "int") (by decide) ⟨_, e, rfl⟩ (fun s' => typeIs_int s' k t) noFill_list_mul F.fills_int_mul F.slot_int_rmul repeat_list F.slot_int_index.lookup
    (call_meets F.slot_int_rmul (typeIs_int s k t) F.entry_int_rmul (F.args_int_rmul_2 _ _) (int___rmul___int_list k t l its.toArray n)
      ⟨e, rfl, ⟨_, e, rfl⟩, call_meets F.slot_list_mul ⟨_, e, rfl⟩ F.entry_list_mul (F.args_list_mul_2 _ _) (AutoListH.list___mul___list_int_3 l its.toArray n k t hfit hcap hlong) ⟨e, ?_⟩⟩)
  rw [hnew]
  exact ⟨.ref _, _, I.lnew (t' := s.toks) (r.rep k.toNat) (by rw [len_rep, Nat.mul_comm]; exact hz), rfl, q _ I.fresh⟩
end
section
variable {prog : Program} {w : World} {A : Around} {E : Value → Shared → Prop} {s : Shared}
end
section
variable {X : Cx}
end
end L2
namespace Att
open PySem PySem.W PySem.Calls PyProof.Rows
theorem ints_of_wellAll {P : Params} {h : Heap} : ∀ (ns : List Int) (vs : List Value), WellAll P h vs (ns.map WData.int) → IntsAre vs ns := by
  intro ns
  induction ns with
  | nil =>
    intro vs w
    rw [List.map_nil] at w
    cases w
    exact .nil
  | cons n ns ih =>
    intro vs w
    rw [List.map_cons] at w
    cases w with
    | cons a b =>
      cases a
      exact .cons _ _ (ih _ b)
theorem script_of {l : OpenLaw} {n : Nat} (hn : l.most = some n) {P : Params} {h : Heap} {args : List WData} {vals : List Value}
    (hpre : l.row.toRowW.claim.pre args = true) (hwl : WellAll P h vals args) :
    ∃ a vs ns, vals = [Value.ref a] ∧ args = [WData.list (ns.map WData.int)] ∧ h.get? a = some { cls := .type "list", data := .seq vs.toArray } ∧ IntsAre vs ns ∧ ns.length ≤ n := by
  have hsh : WShape.hasAll [] args [.list .int] = true := (pre_splitW hpre).1
  have hc : l.pre.holds [] { args := args } = true := (pre_splitW hpre).2
  obtain ⟨d, r, rfl, h1, h2⟩ := hasAllW_cons hsh
  obtain rfl := hasAllW_nil h2
  obtain ⟨xs, rfl, h3⟩ := hasW_list h1
  obtain ⟨ns, rfl⟩ := items_int h3
  have hlen : ns.length ≤ n := by
    unfold OpenLaw.pre at hc
    have h4 : (WTm.not (.lt (.lit (.int (n : Int))) (.len (.arg 0)))).holds [] { args := [.list (ns.map .int)] } = true := by
      have h4 := (holds_andW hc).1
      rw [hn] at h4
      exact h4
    have h5 := condW_of h4 (w_not (w_lt w_lit (w_len_list (w_arg rfl))))
    rw [List.length_map] at h5
    refine Nat.le_of_not_lt fun q => ?_
    have q' : (n : Int) < ((ns.length : Nat) : Int) := by (first|lia|omega)
    first
      | (rw [decide_eq_true q'] at h5; exact absurd h5 (by decide))
      | (simp at h5; (first|lia|omega))
  cases hwl with
  | cons w1 w2 =>
    cases w2
    cases w1 with
    | list ho hall => exact ⟨_, _, ns, rfl, rfl, ho, ints_of_wellAll ns _ hall, hlen⟩
theorem post_true (l : OpenLaw) (args : List WData) : l.row.toRowW.claim.post args (.bool true) args = true :=
  postW_of (r := l.row.toRowW) (X := (true == true))
    (show WShape.has [] (.bool true) .bool = true by first | rfl | decide | simp [WShape.has, WShape.arms, WShape.armsAll])
    (show (WTm.eq .res (.lit (.bool true))).value [] { args := args, res := some (.bool true), after := args } = some (.bool (true == true)) from w_eq_bool (w_res rfl) w_lit) rfl
theorem attach_call {l : OpenLaw} {n : Nat} {q : Program} {loose : List Str} {XP : (Str → Option Value) → Heap → Prop} {YP : World → Heap → Prop} {d : DefRec}
    (hn : l.most = some n) (hdf : d.params.defaults = [])
    (call : ∀ (w : World) (s₀ s₁ : Shared) (mg mb : Str → Option Value) (fa : Addr) (o : Obj) (pm cd doc : Value) (a : Addr) (vs : List Value) (ns : List Int),
      Ground q loose [] XP w s₀ mg mb s₁.heap → YP w s₁.heap →
      s₁.heap.get? fa = some o → o.data = .func (docDef d.name d.params d.body d.scope pm cd doc) → s₁.heap.CodeRec cd d.name → mg d.name = some (.ref fa) →
      s₁.heap.get? a = some { cls := .type "list", data := .seq vs.toArray } → IntsAre vs ns → ns.length ≤ n → s₁.gens = #[] →
      codeAny (model l.prog w) callerA (.call (.ref fa) ⟨[.ref a], []⟩) (fun r s' => r = .ok (.ret (.bool true)) ∧ OldK s₁.heap s'.heap ∧ s'.os = s₁.os ∧ AllBare s'.gens) s₁) :
    WalkO q loose XP YP l.row.toRowW d [] (fun f vs => PySem.call f vs) := by
  intro w s₀ s₁ mg mb G Y fa o pm cd doc dV kV ho hd hcd hD hmg hg args vals as hpre hlay hrd hwl hlo
  obtain rfl : dV = .none := Dflts.none hD hdf
  obtain rfl : kV = .none := Dflts.noKw hD
  obtain ⟨a, vs, ns, rfl, rfl, hobj, hints, hlen⟩ := script_of hn hpre hwl
  refine enter_call (codeAny_mono (call w s₀ s₁ mg mb fa o pm cd doc a vs ns G Y ho (fd_plain hd) hcd hmg hobj hints hlen hg) fun r s' hq => ?_)
  obtain ⟨rfl, h2, h3, h4⟩ := hq
  exact ⟨.inl ⟨.bool true, .bool true, [], rfl, fun _ => rfl, .bool true, post_true l _, fun _ => ⟨List.Pairwise.nil, fun _ hm => (nomatch hm)⟩⟩, h2, h3, h4⟩
section
variable {prog : Program} {w : World} {A : Around} {E : Value → Shared → Prop} {s : Shared} {K : Frag}
end
end Att
namespace L2
open PySem PySem.Spec PyProof.Rows
theorem vals_ints : ∀ {vs : List Value} {ns : List Int}, IntsAre vs ns → Vals (ns.map V.int) vs
  | _, _, .nil => .nil
  | _, _, .cons n t h => .cons ⟨t, rfl⟩ (vals_ints h)
def Only (H : Hp) : Prop := ∀ b, H b = none ∨ ∃ o xs, H b = some (.frz o (.lst xs))
theorem law_call {P : Program} {w : World} {K : PySem.W.Frag} {mg mb : Str → Option Value} {CX : CXT} {k : Nat} {fa a : Addr} {fd : FuncData} {x : Str} {sp : Sp} {s₁ : Shared} {vs : List Value} {ns : List Int}
    (KX : K.In s₁.heap) (hns : s₁.heap.Ns mainGlobals mg) (hb : s₁.heap.Ns builtinsNs mb) (hbb : ∀ x : Str, x ≠ "__name__" → mb x = bootBuiltins x) (hlim : s₁.heap.NoLimit) (hg : s₁.gens = #[])
    (ha : s₁.heap.get? a = some { cls := .type "list", data := .seq vs.toArray }) (hi : IntsAre vs ns) (hl : ns.length ≤ sizeLine) (hr : Room k callerA)
    (F : ∀ base : Heap, K.In base → base.Ns mainGlobals mg → FnOk P w K mg base CX k fa fd [x] sp) (hbind : ∀ (s : Shared) (u : Value), BindsTo s fd ⟨[u], []⟩ [(x, u)])
    (hsp : ∀ H : Hp, Only H → SqL K H a (ns.map V.int) → sp [.ref a] H (fun v _ => v = .bl true) fun _ _ _ => False)
    (hCX : ∀ H e s', CX [] H s₁ (fun _ _ _ => False) e s' → False) :
    codeAny (model P w) callerA (.call (.ref fa) ⟨[.ref a], []⟩) (fun r s' => r = .ok (.ret (.bool true)) ∧ OldK s₁.heap s'.heap ∧ s'.os = s₁.os ∧ AllBare s'.gens) s₁ := by
  have rv := vals_ints hi
  have lenV := hi.length
  have core : ∀ H : Hp, Only H → SqL K H a (ns.map V.int) → HOk P w H s₁.heap → (∀ b, H b ≠ none → b = a) → (H a ≠ none → K.lookup a = none) →
      codeAny (model P w) callerA (.call (.ref fa) ⟨[.ref a], []⟩) (fun r s' => r = .ok (.ret (.bool true)) ∧ OldK s₁.heap s'.heap ∧ s'.os = s₁.os ∧ AllBare s'.gens) s₁ := by
    intro H hO hS hok hA hK
    have base_of : ∀ {b : Addr} {o : Obj}, s₁.heap.get? b = some o → H b = none → (hidT s₁.heap H).get? b = some o := fun e n => hidT_get e n
    have noA : ∀ {b : Addr} {o : Obj} {es : Array DictEntry} {ep : Nat}, s₁.heap.get? b = some o → o.data = .dict es ep → H b = none := fun {b o es ep} e d => by
      cases q : H b with
      | none => rfl
      | some u =>
        have e' : b = a := hA b (by rw [q]; simp)
        subst e'
        rw [ha] at e; cases e
        have d' : Data.seq vs.toArray _ = Data.dict es ep := d
        cases d'
    have nsK : ∀ {b : Addr} {m : Str → Option Value}, s₁.heap.Ns b m → (hidT s₁.heap H).Ns b m := fun {b m} ⟨o, es, ep, e, d, r⟩ => ⟨o, es, ep, base_of e (noA e d), d, r⟩
    have hKb : K.In (hidT s₁.heap H) := fun b o e => base_of (KX b o e) (by
      cases q : H b with
      | none => rfl
      | some u =>
        have e' : b = a := hA b (by rw [q]; simp)
        subst e'
        rw [hK (by rw [q]; simp)] at e; cases e)
    have hM : Mod K mg (hidT s₁.heap H) := ⟨hKb, nsK hns, ⟨mb, nsK hb, hbb⟩, let ⟨mc, h1, h2⟩ := hlim; ⟨mc, nsK h1, h2⟩⟩
    have e0 : Env0 P w K mg (hidT s₁.heap H) callerA [] s₁ H := ⟨rfl, hM, fun b o e => of_hidT e, Nat.le_of_eq (hidT_size _ _), trivial, fun b hb => absurd (show b ∈ ([] : List Addr) from hb) (by simp), hok, .of_eq hg⟩
    refine codeAny_mono ((F _ hKb (nsK hns)).run callerA [] s₁ H ⟨[.ref a], []⟩ [.ref a] [.ref a] _ _ hr e0 (hbind s₁ (.ref a)) (.cons rfl .nil) (hsp H hO hS)) fun r s' h => ?_
    cases r with
    | error e => exact (hCX H e s' h).elim
    | ok fl =>
      cases fl with
      | next => exact False.elim h
      | brk => exact False.elim h
      | cont => exact False.elim h
      | ret u =>
        obtain ⟨v, H', os, bare, un, hok', r', q⟩ := h
        have q' : v = .bl true := q
        subst q'
        obtain rfl : u = Value.bool true := r'
        refine ⟨rfl, OldK.of_keep fun b o e => ?_, os, bare⟩
        cases q : H b with
        | none => exact un.keep b o e q (by intro z; exact absurd (show b ∈ ([] : List Addr) from z) (by simp)) (by simp)
        | some u =>
          rcases hO b with z | ⟨ob, xs, z⟩
          · rw [q] at z; cases z
          · have z2 := un.frzs b ob _ z
            obtain ⟨e1, _⟩ := hok b _ z
            obtain ⟨e2, _⟩ := hok' b _ z2
            rw [e] at e1; cases e1
            exact e2
  cases hk : K.lookup a with
  | some o =>
    have e := KX a o hk
    rw [ha] at e
    cases e
    refine core (fun _ => none) (fun _ => .inl rfl) (.inr ⟨_, vs.toArray, _, hk, rfl, rfl, rfl, by rw [List.size_toArray, lenV]; exact hl, by simpa using rv⟩) (fun b u z => by have z' : (none : Option HO) = some u := z; cases z') (fun b z => absurd rfl z) fun z => absurd rfl z
  | none =>
    refine core (fun b => if b = a then some (.frz { cls := .type "list", data := .seq vs.toArray } (.lst (ns.map V.int))) else none) (fun b => ?_) (.inl (.inr ⟨{ cls := .type "list", data := .seq vs.toArray }, if_pos rfl⟩)) (fun b u z => ?_) (fun b z => ?_) fun _ => hk
    · by_cases hb : b = a
      · exact .inr ⟨_, _, if_pos hb⟩
      · exact .inl (if_neg hb)
    · by_cases hb : b = a
      · have z' := (if_pos hb).symm.trans z
        cases z'
        subst hb
        exact ⟨ha, by rw [List.length_map]; exact hl, vs, _, rv, ha⟩
      · have z' := (if_neg hb).symm.trans z
        cases z'
    · by_cases hb : b = a
      · exact hb
      · exact absurd (if_neg hb) z
end L2
namespace L2
open PySem PySem.Spec PyProof.Rows
abbrev KOf {K : PySem.W.Frag} {h : Heap} (_ : K.In h) : PySem.W.Frag := K
theorem walk_of {l : PySem.W.OpenLaw} {n k : Nat} {q : Program} {loose : List Str} {XP : (Str → Option Value) → Heap → Prop} {YP : World → Heap → Prop} {d : DefRec} {K : Params → PySem.W.Frag} {CX : World → CXT} {sp : World → Sp} {x : Str}
    (hn : l.most = some n) (hn2 : n ≤ sizeLine) (hdf : d.params.defaults = []) (hr : Room k callerA)
    (hY : ∀ (w : World) (h : Heap), YP w h → (K w.params).In h)
    (F : ∀ (w : World) (mg : Str → Option Value) (fa : Addr) (h : Heap), (K w.params).In h → h.Ns mainGlobals mg → mg d.name = some (.ref fa) →
      ∃ fd : FuncData, (∀ (s : Shared) (u : Value), BindsTo s fd ⟨[u], []⟩ [(x, u)]) ∧
        ∀ base : Heap, (K w.params).In base → base.Ns mainGlobals mg → FnOk l.prog w (K w.params) mg base (CX w) k fa fd [x] (sp w))
    (hsp : ∀ (w : World) (H : Hp) (a : Addr) (ns : List Int), ns.length ≤ n → Only H → SqL (K w.params) H a (ns.map V.int) → sp w [.ref a] H (fun v _ => v = .bl true) fun _ _ _ => False)
    (hCX : ∀ (w : World) (H : Hp) (s : Shared) (e : Value) (s' : Shared), CX w [] H s (fun _ _ _ => False) e s' → False) :
    PySem.W.WalkO q loose XP YP l.row.toRowW d [] (fun f vs => PySem.call f vs) := by
  refine Att.attach_call hn hdf fun w s₀ s₁ mg mb fa o pm cd doc a vs ns G Y ho hd hcd hmg hobj hints hlen hg => ?_
  have KX := hY w _ Y
  obtain ⟨fd, hb, hF⟩ := F w mg fa _ KX G.T.g hmg
  exact law_call KX G.T.g G.T.b G.T.builtins G.T.nolimit hg hobj hints (Nat.le_trans hlen hn2) hr hF hb (fun H hO hS => hsp w H a ns hlen hO hS) fun H e s' => hCX w H s₁ e s'
end L2
/- THE LAST THEOREM (shape; LID, My.* are yours):
   My.Adr: a structure of the addresses that your layer names (classes, functions); My.Txt K t: a structure (Prop) of the equations over K;
   My.txt_mk : {K} {implicit addresses ..} (e1 : nsIn K mainGlobals "law" = some (some (.ref f))) (e2 : K.lookup f = some ⟨oc, od, .func (fnOf "law" "law" params body scope dV kV doc pm an cdv ct), sl⟩) (e3 : codeIn K cdv "law" = true) .. : ∃ t, My.Txt K t
set_option maxRecDepth 100000 in
set_option maxHeartbeats 0 in
theorem PySem.Challenge.cw_LID_holds : PySem.Challenge.rw_LID.Holds := by
  w_on; o_law; k_head; (case hw => w_witness2)
  k_fill
  refine L2.walk_of (l := PySem.Challenge.rw_LID) (n := 63) (k := 40) (x := "script") (CX := fun w => ..) (sp := fun _ => My.sp_law) rfl (by decide) rfl ⟨rfl, by decide, by decide⟩ (fun w h Y => PySem.W.kIn_of Y) ?F ?S ?C
  case F =>
    intro w mg fa h KX G hmg
    have T : ∃ t, My.Txt (L2.KOf KX) t := by
      dsimp only [L2.KOf]                          -- K must stand as «<heap const> w.params» for k_is
      refine' My.txt_mk ?e1 ?e2 ?e3 ..
      (case e1 => PySem.W.k_is)                    -- in the order: a name -> its address -> its object -> its parts
      (case e2 => PySem.W.k_is)
      ..
    obtain ⟨t, T⟩ := T
    have e0 := hmg.symm.trans (PySem.W.mg_of KX G T.law)
    cases e0                                       -- fa is the law's own address
    exact ⟨_, fun s u => .of_eq rfl, fun base kb nb => My.law_fn T kb nb⟩     -- if «.of_eq rfl» comes too early: refine' ⟨_, ?b, fun base kb nb => My.law_fn T kb nb⟩; exact fun s u => .of_eq rfl
  case S => exact fun w H a ns hl hO hS => ..
  case C => exact ..
(the tactic k_is has no namespace: write k_is) -/
namespace L2
open PySem PySem.Spec PyProof.Rows
def defArgs (s : Stmt) : Arguments := match s with
  | .FunctionDef _ a _ _ _ _ _ _ _ _ => a
  | _ => { posonlyargs := [], args := [], vararg := none, kwonlyargs := [], kw_defaults := [], kwarg := none, defaults := [] }
def defBody (s : Stmt) : List Stmt := match s with
  | .FunctionDef _ _ b _ _ _ _ _ _ _ => b
  | _ => []
def defScope (s : Stmt) : Scope := match s with
  | .FunctionDef _ _ _ _ _ _ sc _ _ _ => sc
  | _ => { kind := .function, names := [], isGenerator := false, isCoroutine := false }
abbrev CX0 : CXT := fun _ _ _ _ _ _ => False
abbrev E0 : XK := fun _ _ _ => False
theorem pass0 {X : Cx} : Passes CX0 X E0 := fun _ _ _ _ _ _ _ h => h.elim
structure Fun (K : PySem.W.Frag) (x qual : Str) (st : Stmt) (f : Addr) (fd : FuncData) : Prop where
  ex : ∃ (oc : Value) (od : Option Addr) (kV doc pm : Value) (an : Option Addr) (cdv ct : Value) (osl : Array (Option Value)),
    fd = PySem.W.fnOf x qual (defArgs st) (defBody st) (defScope st) .none kV doc pm an cdv ct ∧ K.lookup f = some ⟨oc, od, .func fd, osl⟩ ∧ PySem.W.codeIn K cdv qual = true
  kp : PySem.W.keepIn K (.ref f) = true
section
variable {P : Program} {w : World} {K : PySem.W.Frag} {mg : Str → Option Value} {base : Heap}
theorem Fun.ok {x qual : Str} {st : Stmt} {f : Addr} {fd : FuncData} {N ps : List Str} {k : Nat} {sp : Sp} (F : Fun K x qual st f fd) (S : FnScope N ps (defScope st)) (len : ∀ vs H Q E, sp vs H Q E → vs.length = ps.length)
    (hbody : ∀ (cdv : Value) (A : Around) (outer : List Env) (s : Shared) (H : Hp) (vs : List V) (Q : VK) (E : XK), Room k (A.deeper (envOfC qual (defScope st) s.heap.objs.size f cdv)) → sp vs H Q E →
      ∃ t, PSs (cxOf CX0 P w K mg base N qual (defScope st) f cdv A outer s H E).nox (defBody st) t ∧ t { nx := fun _ H' => Q .non H', rt := Q } (start N vs) H) : FnOk P w K mg base CX0 (k + 1) f fd ps sp := by
  obtain ⟨oc, od, kV, doc, pm, an, cdv, ct, osl, rfl, lk, hcd⟩ := F.ex
  refine fn_of lk hcd S len fun A outer s H vs Q E hr hsp => ?_
  obtain ⟨t, h, q⟩ := hbody cdv A outer s H vs Q E hr hsp
  exact ⟨t, h.nox, q⟩
theorem Fun.binds {x qual : Str} {st : Stmt} {f : Addr} {fd : FuncData} {ps : List Str} (F : Fun K x qual st f fd)
    (h : ∀ (kV doc pm : Value) (an : Option Addr) (cdv ct : Value) (us : List Value), us.length = ps.length → bindArgs (PySem.W.fnOf x qual (defArgs st) (defBody st) (defScope st) .none kV doc pm an cdv ct) ⟨us, []⟩ = pure (ps.zip us)) : Binds K fd ps [] := by
  obtain ⟨oc, od, kV, doc, pm, an, cdv, ct, osl, rfl, lk, hcd⟩ := F.ex
  exact .all (h kV doc pm an cdv ct)
theorem fun_mk {x qual : Str} {st : Stmt} {f : Addr} {oc : Value} {od an : Option Addr} {osl : Array (Option Value)} {kV doc pm cdv ct : Value} (l : K.lookup f = some ⟨oc, od, .func (PySem.W.fnOf x qual (defArgs st) (defBody st) (defScope st) .none kV doc pm an cdv ct), osl⟩)
    (c : PySem.W.codeIn K cdv qual = true) (k : PySem.W.keepIn K (.ref f) = true) : Fun K x qual st f (PySem.W.fnOf x qual (defArgs st) (defBody st) (defScope st) .none kV doc pm an cdv ct) := ⟨⟨oc, od, kV, doc, pm, an, cdv, ct, osl, rfl, l, c⟩, k⟩
end
theorem hu_of {A : Around} {k : Nat} (hr : Room k A) : A.units + 1 < cLine := Nat.lt_of_le_of_lt (Nat.add_le_add_left (by decide : 1 ≤ 64) _) hr.units
theorem small1000 {n : Nat} (h : n ≤ 1000) : n < sizeLine := Nat.lt_of_le_of_lt h (by decide)
section
variable {X : Cx}
theorem pv (i : Nat) {x : Str} {pos : Pos} (hN : X.N[i]? = some x := by rfl) (hv : Vis X.env.scope x := by first | exact Or.inl rfl | exact Or.inr (Or.inl rfl) | exact Or.inr (Or.inr rfl)) (hd : (x == ("__debug__" : Str)) = false := by decide)
    (hcd : (x == ("__classdict__" : Str)) = false := by decide) : PE X (.Name x pos) (tVar i) := pe_var hN hv hd hcd
end
theorem iteT {A B : Prop} (h : A) : if true = true then A else B := by
  rw [if_pos rfl]
  exact h
theorem ite2 {c A B : Prop} [Decidable c] (h1 : c → A) (h2 : ¬ c → B) : if c then A else B := by
  by_cases h : c
  · rw [if_pos h]
    exact h1 h
  · rw [if_neg h]
    exact h2 h
def Same (H H' : Hp) : Prop := ∀ b o, H b = some o → H' b = some o
theorem Same.refl (H : Hp) : Same H H := fun _ _ h => h
theorem Same.trans {H H1 H2 : Hp} (a : Same H H1) (b : Same H1 H2) : Same H H2 := fun c o h => b c o (a c o h)
theorem Same.free {H H' : Hp} (e : Same H H') {l : Addr} (h : H' l = Option.none) : H l = Option.none := by
  cases q : H l with
  | none => rfl
  | some o =>
    rw [e l o q] at h
    cases h
theorem Same.seq {K : PySem.W.Frag} {H H' : Hp} {a : Addr} {xs : List V} (e : Same H H') (h : SqL K H a xs) : SqL K H' a xs := by
  rcases h with (h | ⟨o, h⟩) | h
  · exact .inl (.inl (e _ _ h))
  · exact .inl (.inr ⟨o, e _ _ h⟩)
  · exact .inr h
end L2
namespace L2
open PySem PySem.Spec PyProof.Rows
section
variable {X : Cx}
theorem op_fdivP : OpR X (binaryOp .FloorDiv) (rI (fun _ j => 0 < j ∧ j.natAbs.log2 < 9000) fun i j => .int (i / j)) := opI fun i j _ _ _ _ _ hc q => by
  have h1 : (0 : Int) < j := hc.1
  exact floordiv_int (by (first|lia|omega)) (by rw [Int.fdiv_eq_ediv_of_nonneg i (by (first|lia|omega))]; exact q) (.inl (PyProof.noPylong_of_log2 hc.2))
theorem op_mulG : OpR X (binaryOp .Mult) (rI IntMulOk fun i j => .int (i * j)) := opI fun _ _ _ _ _ _ _ hc q => mul_int q hc
theorem mulR {i j : Int} (h1 : -(2 ^ 64) < j) (h2 : j < 2 ^ 64) : IntMulOk i j := .of_right (intBits_le_64 h1 h2)
theorem mulL {i j : Int} (h1 : -(2 ^ 64) < i) (h2 : i < 2 ^ 64) : IntMulOk i j := .of_left (intBits_le_64 h1 h2)
theorem log_lt {j : Int} (m : Nat) (h0 : j ≠ 0) (h : j.natAbs < 2 ^ m) (hm : m ≤ 9000 := by decide) : j.natAbs.log2 < 9000 :=
  Nat.lt_of_lt_of_le ((Nat.log2_lt (by (first|lia|omega))).mpr h) hm
theorem boot_int : bootBuiltins "int" = some (.type "int") := by decide +kernel
theorem boot_bool : bootBuiltins "bool" = some (.type "bool") := by decide +kernel
theorem boot_list : bootBuiltins "list" = some (.type "list") := by decide +kernel
theorem boot_ValueError : bootBuiltins "ValueError" = some (.type "ValueError") := by decide +kernel
theorem boot_tuple : bootBuiltins "tuple" = some (.type "tuple") := by decide +kernel
theorem kit_int_bool (K : PySem.W.Frag) : PySem.W.kitOne K (.type "int") (.type "bool") = some false := by first | rfl | kernel_rfl
def ExcIs (a : Addr) (c : Value) (h : Heap) : Prop := ∃ oe vs, h.get? a = some oe ∧ oe.cls = c ∧ oe.data = .fields vs
def excO (a : Addr) (c : Value) : HO := .ext (ExcIs a c)
structure ExcCls (K : PySem.W.Frag) (c : Value) : Prop where
  kit : ∀ a : Addr, PySem.W.KitX K (.ref a) c (ExcIs a c)
inductive TyX (K : PySem.W.Frag) (H : Hp) : V → Value → Prop where
  | of {x : V} {t : Value} (h : TyOf K H x t) : TyX K H x t
  | exc {a : Addr} {c : Value} (h : H a = some (excO a c)) (k : ExcCls K c) : TyX K H (.ref a) c
def clsV : V → Option Value
  | .ty n => some (.type n)
  | .ref c => some (.ref c)
  | _ => none
def rIsi (K : PySem.W.Frag) : List V → Hp → VK → Prop := fun xs H Q => ∃ x c t cv b, xs = [x, c] ∧ clsV c = some cv ∧ TyX K H x t ∧ PySem.W.kitOne K t cv = some b ∧ Q (.bl b) H
def tCallS (sp : Sp) (dvs : List V) (E : St → XK) (t : TA) : TE := fun σ H Q => t σ H fun vs H1 => sp (vs ++ dvs) H1 Q (E σ)
theorem isi_int_int {K : PySem.W.Frag} {H : Hp} {Q : VK} {i : Int} (q : Q (.bl true) H) : rIsi K [.int i, .ty "int"] H Q := ⟨_, _, _, _, true, rfl, rfl, .of (.int i), rfl, q⟩
theorem isi_int_bool {K : PySem.W.Frag} {H : Hp} {Q : VK} {i : Int} (q : Q (.bl false) H) : rIsi K [.int i, .ty "bool"] H Q := ⟨_, _, _, _, false, rfl, rfl, .of (.int i), kit_int_bool K, q⟩
theorem isi_tup_tup {K : PySem.W.Frag} {H : Hp} {Q : VK} {r : Addr} {xs : List V} (h : H r = some (.tup xs)) (q : Q (.bl true) H) : rIsi K [.ref r, .ty "tuple"] H Q := ⟨_, _, _, _, true, rfl, rfl, .of (.tup h), rfl, q⟩
theorem clsV_rel {c : V} {u cv : Value} (r : RelV c u) (h : clsV c = some cv) : u = cv := by
  cases c with
  | ty n => cases r; exact Option.some.inj h
  | ref a => cases r; exact Option.some.inj h
  | _ => cases h
theorem call_isinst : CallR X (.builtin "isinstance") (rIsi X.K) := by
  intro pins s σ H xs us Q I r h
  obtain ⟨x, c, t, cv, b, rfl, hc, ty, e, q⟩ := h
  obtain ⟨u, w', rfl, rx, rw'⟩ := vals2 r
  obtain rfl := clsV_rel rw' hc
  cases ty with
  | of ty => exact isinst_ok I rx ty e fun tk => ⟨.bl b, H, I.tok tk, rfl, q⟩
  | @exc a c h k =>
    cases (show u = Value.ref a from rx)
    obtain ⟨p, _, _⟩ := (show ObjOk X.prog X.w H s.heap a (excO a t) from I.hok a _ h)
    exact PySem.W.kia_one (k.kit a) I.kIn p e (fun z => nomatch z) fun tk => ⟨.bl b, H, I.tok tk, rfl, q⟩
def rCount (K : PySem.W.Frag) : V → List V → Hp → VK → Prop := fun x vs H Q => ∃ l xs y, x = .ref l ∧ vs = [y] ∧ SqL K H l xs ∧ flatV y = true ∧ xs.all flatV = true ∧ Q (.int ((xs.countP fun z => eqV z y : Nat) : Int)) H
theorem countP_eqU {x : V} : ∀ {xs : List V} {us : List Value}, Vals xs us → xs.all flatV = true → us.countP (eqU x) = xs.countP fun y => eqV y x
  | _, _, .nil, _ => rfl
  | y :: xs, u :: us, .cons r t, f => by
    rw [List.all_cons, Bool.and_eq_true] at f
    rw [List.countP_cons, List.countP_cons, eqU_of r f.1, countP_eqU t f.2]
theorem mt_count : MtR X "list.count" (rCount X.K) := by
  intro pins s σ H x vs v us Q I rx rv h
  obtain ⟨l, xs, y, rfl, rfl, hl, fy, fs, q⟩ := h
  cases rx
  obtain ⟨u, rfl, ru⟩ := rv.one
  obtain ⟨its, r, ⟨⟨cls, dd, data, sl⟩, n, e, hc, hdn, hd⟩, _⟩ := I.list hl
  simp only at hc hd
  subst hc hd
  refine call_meets F.slot_list_count ⟨_, e, rfl⟩ F.entry_list_count (F.args_list_count_2 _ _) (SeqAt.list_countAt l its.toArray n dd sl u (eqU y)) ⟨e, fun w hw => mem_eqAt ru fy r fs w (by simpa using hw), ?_⟩
  refine ⟨.int _, H, I.tok _, ⟨_, rfl⟩, ?_⟩
  rw [List.toList_toArray, countP_eqU r fs]
  exact q
def rIndex (K : PySem.W.Frag) : V → List V → Hp → VK → Prop := fun x vs H Q => ∃ l xs y j, x = .ref l ∧ vs = [y] ∧ SqL K H l xs ∧ flatV y = true ∧ xs.all flatV = true ∧ xs.findIdx? (fun z => eqV z y) = some j ∧ j < 1000000 ∧ Q (.int (j : Nat)) H
theorem findIdx_eqU {x : V} : ∀ {xs : List V} {us : List Value}, Vals xs us → xs.all flatV = true → us.findIdx? (eqU x) = xs.findIdx? fun y => eqV y x
  | _, _, .nil, _ => rfl
  | y :: xs, u :: us, .cons r t, f => by
    rw [List.all_cons, Bool.and_eq_true] at f
    rw [List.findIdx?_cons, List.findIdx?_cons, eqU_of r f.1, findIdx_eqU t f.2]
theorem mt_index : MtR X "list.index" (rIndex X.K) := by
  intro pins s σ H x vs v us Q I rx rv h
  obtain ⟨l, xs, y, j, rfl, rfl, hl, fy, fs, hj, hs, q⟩ := h
  cases rx
  obtain ⟨u, rfl, ru⟩ := rv.one
  obtain ⟨its, r, ⟨⟨cls, dd, data, sl⟩, n, e, hc, hdn, hd⟩, _⟩ := I.list hl
  simp only at hc hd
  subst hc hd
  rw [← findIdx_eqU r fs] at hj
  obtain ⟨hlt, h1, h2⟩ := List.findIdx?_eq_some_iff_getElem.mp hj
  refine call_meets F.slot_list_index ⟨_, e, rfl⟩ F.entry_list_index (F.args_list_index_2 _ _) (SeqAt.list_indexAt l its.toArray n dd sl u (eqU y) j (by simpa using hlt) (by (first|lia|omega)) (by simpa using h1) (fun m hm hmj => by simpa using h2 m hmj)) ⟨e, fun w hw => mem_eqAt ru fy r fs w (by simpa using hw), ?_⟩
  exact ⟨.int _, H, I.tok _, ⟨_, rfl⟩, q⟩
def tCut (t : TS) : TS := fun D σ H => ∃ R : St → Hp → Prop, t { D with nx := R } σ H ∧ ∀ σ' H', R σ' H' → D.nx σ' H'
theorem ps_cut {st : Stmt} {t : TS} (h : PS X st t) : PS X st (tCut t) := by
  intro pins s σ H D I hw
  obtain ⟨R, hw, hR⟩ := hw
  refine thn (h pins s σ H _ I hw) fun f s' q => ?_
  cases f with
  | next => obtain ⟨σ', H', I', q⟩ := q; exact ⟨σ', H', I', hR _ _ q⟩
  | brk => exact q
  | cont => exact q
  | ret u => exact q
end
theorem same_new {H : Hp} {p : Addr} (h : H p = none) (o : HO) : Same H (upd H p o) := fun b u q => by rw [upd_ne (ne_of_none q h)]; exact q
theorem Same.add {H0 H : Hp} {p : Addr} {o : HO} (s : Same H0 H) (h : H p = none) : Same H0 (upd H p o) := s.trans (same_new h o)
theorem Same.put {H0 H : Hp} {p : Addr} {o : HO} (s : Same H0 H) (h : H0 p = none) : Same H0 (upd H p o) := fun b u q => by rw [upd_ne (ne_of_none q h)]; exact s _ _ q
theorem truV_int {K : PySem.W.Frag} {i : Int} {H : Hp} {k : Bool} : TruV K (.int i) H k = (k = (i != 0)) := rfl
theorem truV_bl {K : PySem.W.Frag} {i : Bool} {H : Hp} {k : Bool} : TruV K (.bl i) H k = (k = i) := rfl
theorem scal_int (a b : Int) : scal (.int a) (.int b) = true := rfl
theorem scal_bl (a b : Bool) : scal (.bl a) (.bl b) = true := rfl
theorem at_int {ns : List Int} {k : Int} (h0 : 0 ≤ k) (h : k < (ns.length : Int)) : ∃ v : Int, atI (ns.map V.int) k = some (.int v) ∧ ns[k.toNat]? = some v := by
  have hk : k.toNat < ns.length := by (first|lia|omega)
  have ek : k = ((k.toNat : Nat) : Int) := by (first|lia|omega)
  have q : atI (ns.map V.int) ((k.toNat : Nat) : Int) = some (.int ns[k.toNat]) := atI_nat (by rw [List.getElem?_map, List.getElem?_eq_getElem hk] <;> rfl)
  rw [← ek] at q
  exact ⟨ns[k.toNat], q, List.getElem?_eq_getElem hk⟩
def ForIt (J : It) (g : TG) (tb : TS) : TS := fun D σ H => ∃ W : Nat → Nat → St → Hp → Prop, (∃ m, W 0 m σ H) ∧ ∀ i m σ H, W i m σ H →
  (J.stop i H ∧ D.nx σ H) ∨ (J.go i H ∧ ∃ N : St → Hp → Prop, (∀ σ' H', N σ' H' → ∃ m', m' < m ∧ W (i + 1) m' σ' H') ∧ ∀ x H', J.yld i H x H' → g x σ H' fun σ2 H2 => tb { D with nx := N, ct := N, bk := D.nx } σ2 H2)
theorem tFor_eq {wi : TI} {g : TG} {tb : TS} {D : Ends} {σ : St} {H : Hp} : tFor wi g tb D σ H = wi σ H fun J H1 => ForIt J g tb D σ H1 := rfl
theorem for_rangeF {lo : Int} {n : Nat} {g : TG} {tb : TS} {D : Ends} {σ : St} {H : Hp} (Pv : Nat → St → Hp → Prop) (h0 : Pv 0 σ H)
    (hs : ∀ i σ H, i < n → Pv i σ H → g (.int (lo + i)) σ H fun σ2 H2 => tb { D with nx := Pv (i + 1), ct := Pv (i + 1), bk := D.nx } σ2 H2) (hd : ∀ σ H, Pv n σ H → D.nx σ H) : ForIt (Itr lo n) g tb D σ H := for_range Pv h0 hs hd
theorem for_listF {K : PySem.W.Frag} {a : Addr} {xs : List V} {g : TG} {tb : TS} {D : Ends} {σ : St} {H : Hp} (Pv : Nat → St → Hp → Prop) (h0 : Pv 0 σ H) (hl : ∀ i σ H, i ≤ xs.length → Pv i σ H → SqL K H a xs)
    (hs : ∀ i x σ H, xs[i]? = some x → Pv i σ H → g x σ H fun σ2 H2 => tb { D with nx := Pv (i + 1), ct := Pv (i + 1), bk := D.nx } σ2 H2) (hd : ∀ σ H, Pv xs.length σ H → D.nx σ H) : ForIt (Itl K a) g tb D σ H := for_list Pv h0 hl hs hd
end L2
namespace L2
open PySem PySem.Spec PyProof.Rows
section
variable {P : Program} {w : World}
structure ExcAt (P : Program) (w : World) (outer : List Env) (H : Hp) (s : Shared) (E : XK) (ea : Addr) (s' : Shared) (B : Heap) (cls a0 : Value) (H' : Hp) : Prop where
  os : s'.os = s.os
  bare : AllBare s'.gens
  un : Un (frs outer) [] H H' s.heap s'.heap
  hokB : HOk P w H' B
  fly : Heap.FlyingW B outer ea cls a0 s'.heap
  cov : ∀ b o, s.heap.get? b = some o → H b = none → b ∉ frs outer → B.get? b = some o
  covT : ∀ b o, s.heap.get? b = some o → b ∉ frs outer → ∃ o', B.get? b = some o'
  new : s.heap.get? ea = none
  free : H' ea = none
  want : E cls none H'
theorem ExcAt.later {outer : List Env} {H H' : Hp} {s s' : Shared} {E : XK} {ea : Addr} {B h : Heap} {cls a0 : Value} (x : ExcAt P w outer H s E ea s' B cls a0 H') (st : B.StaysIn h) (sm : s'.heap.UpToSlots h)
    (ff : s'.heap.FunFrames B outer) : Un (frs outer) [] H H' s.heap h ∧ HOk P w H' h := by
  have slot : ∀ b o, s'.heap.get? b = some o → b ∈ frs outer → ∃ sl, h.get? b = some { o with slots := sl } := fun b o e hb => by
    obtain ⟨_, o', e', nf⟩ := ff.mem hb
    rw [e] at e'
    cases e'
    exact sm b o e nf
  refine ⟨⟨fun b o e n hb _ => st b o (x.cov b o e n hb), fun b o e n hb hx => ?_, x.un.free, fun b o e hx => ?_, x.un.tups, x.un.frzs, x.un.tbls⟩, x.hokB.kept st⟩
  · obtain ⟨sl, e1⟩ := x.un.slot b o e n hb hx
    obtain ⟨sl', e2⟩ := slot b _ e1 hb
    exact ⟨sl', e2⟩
  · by_cases hb : b ∈ frs outer
    · obtain ⟨o1, e1⟩ := x.un.there b o e hx
      obtain ⟨sl, e2⟩ := slot b o1 e1 hb
      exact ⟨_, e2⟩
    · obtain ⟨o', e'⟩ := x.covT b o e hb
      exact ⟨o', st b o' e'⟩
end
section
variable {P : Program} {w : World} {K : PySem.W.Frag} {mg : Str → Option Value} {base : Heap} {N : List Str} {qual : Str} {scope : Scope} {f : Addr} {cd : Value} {A : Around} {outer : List Env} {s₀ : Shared} {H₀ : Hp} {E : XK}
end
section
variable {P : Program} {w : World} {K : PySem.W.Frag} {mg : Str → Option Value} {base : Heap} {N : List Str} {qual : Str} {scope : Scope} {f : Addr} {cd : Value} {A : Around} {outer : List Env} {s₀ : Shared} {H₀ : Hp} {E : XK}
end
abbrev veMro : List Value := [.type "ValueError", .type "Exception", .type "BaseException", .type "object"]
def OwnExc (h : Heap) (C : Addr) : Prop := ∃ bm N nm q bs hdct sn sub ab col dd k0 k1 k2 k3 k5 mN, h.get? C = some (excClassObj nm q C N bs bm hdct sn sub ab col dd k0 k1 k2 k3 k5 "ValueError.__new__") ∧ h.Ns N mN ∧ mN "__init__" = none ∧ OwnTail h veMro bm
theorem ownExc_of {K : PySem.W.Frag} {h : Heap} {C : Addr} (X : K.In h) (q : PySem.W.excIn K C veMro "ValueError.__new__" = true) : OwnExc h C := by
  unfold PySem.W.excIn at q
  split at q
  · rename_i dd cd sl ho
    split at q
    · rename_i C2 bm k0 k1 k2 k3 n k5 hm hs
      simp only [Bool.and_eq_true,beq_iff_eq,Bool.not_eq_true'] at q
      obtain ⟨⟨⟨⟨⟨r1, r2⟩, r3⟩, r4⟩, r5⟩, r6⟩ := q
      subst r1 r2
      obtain ⟨a1, a2, a3, a4, a5, a6, a7, a8, a9, a10, a11⟩ := cd
      dsimp only at hm r3 r5 r6
      subst hm r3
      have z : sl = #[k0, k1, k2, k3, some (.builtin "ValueError.__new__"), k5] := by
        obtain ⟨l⟩ := sl
        exact congrArg Array.mk hs
      subst z
      exact ⟨bm, _, _, _, _, _, _, _, _, _, _, k0, k1, k2, k3, k5, _, X _ _ ho, .of_isNs (PySem.W.isNs_of_in X r5), PySem.W.nsMap_none_of_in X r5 r6, PySem.W.tail_of_in X r4⟩
    · cases q
  · cases q
section
variable {X : Cx} {CX : CXT} {k : Nat} {f : Addr} {fd : FuncData} {ps : List Str} {sp : Sp} {dvs : List V} {ds : List Value} {E : St → XK} {x : Str} {p pos : Pos} {e : Expr} {es : List Expr} {t : TA}
def PassesS (CX : CXT) (X : Cx) (E : St → XK) : Prop := ∀ (pins : List (Addr × Obj)) (σ : St) (H : Hp) (s : Shared) (e : Value) (s' : Shared), Inv X pins σ H s → CX X.stack H s (E σ) e s' → X.xe e s'
theorem pe_callS (F : FnOk X.prog X.w X.K X.mg X.base CX k f fd ps sp) (hr : Room k X.A) (hg : Gl X x) (hm : X.mg x = some (.ref f)) (hk : PySem.W.keepIn X.K (.ref f) = true) (hb : Binds X.K fd ps ds) (hd : Vals dvs ds) (hx : PassesS CX X E)
    (ha : PA X (e :: es) t) (hdb : (x == ("__debug__" : Str)) = false := by decide) (he : starEach (e :: es) X.env = (false, eval e X.env) :: starEach es X.env := by rfl) (hpl : (backTo pos (starEach es X.env)).any (·.1) = false := by rfl) :
    PE X (.Call (.Name x p) (e :: es) [] pos) (tCallS sp dvs E t) := by
  intro pins s σ H Q I h
  refine wpAny_Call_Name_kw (ld_glob I hg hm ?_ hdb)
  refine PySem.W.callWith_K (h₀ := X.base) I.ok.mod.kin hk (thn (ha pos pins s σ H _ I h) fun us s1 ⟨vs, H1, I1, r, q⟩ => ⟨I1.kIn, ?_⟩) he hpl
  have r2 : Vals (vs ++ dvs) (us ++ ds) := r.append hd
  have hl : (us ++ ds).length = ps.length := by rw [← r2.length]; exact F.len _ _ _ _ q
  refine wpAny_call (codeAny_mono (F.run X.A X.stack s1 H1 ⟨us, []⟩ (us ++ ds) (vs ++ dvs) Q (E σ) hr I1.env0 (hb s1 us I1.kIn hl) r2 q) fun res s' hq => ?_)
  cases res with
  | error e => exact hx pins σ H1 s1 e s' I1 hq
  | ok fl =>
    cases fl with
    | ret u => exact I1.after hq
    | next => exact False.elim hq
    | brk => exact False.elim hq
    | cont => exact False.elim hq
end
theorem Cx.Ok.pinned {X : Cx} (ok : X.Ok) (pn : List (Addr × Obj)) (xe : Value → Shared → Prop) : Cx.Ok { X with pn := pn, xe := xe } :=
  ⟨ok.mod, ok.kind, ok.glob, ok.blt, ok.above, ok.inj, ok.has, ok.cab, ok.hd, ok.frames, ok.stk, ok.exf, ok.bs, ok.bsz, ok.noex, ok.exfs, ok.funs, ok.frf⟩
theorem Inv.ofTry {X : Cx} {pins pins' : List (Addr × Obj)} {xe : Value → Shared → Prop} {σ : St} {H : Hp} {s : Shared} (I : Inv { X with pn := X.pn ++ pins, xe := xe } pins' σ H s) (ok : X.Ok) : Inv X pins σ H s :=
  ⟨ok, I.os, I.bare, I.base, I.loc, I.cell, I.free, I.freeC, fun p hp => I.pin p (List.mem_append_left _ hp), I.hok, I.len⟩
theorem Inv.track {X : Cx} {pins : List (Addr × Obj)} {σ : St} {H : Hp} {s : Shared} {a : Addr} {o : HO} (I : Inv X pins σ H s) (hn : H a = none) (h0 : X.s₀.heap.get? a = none) (hL : a ≠ X.env.locals) (hc : ∀ x c, X.env.cells.lookup x = some c → c ≠ a)
    (hp : ∀ p ∈ X.pn ++ pins, p.1 ≠ a) (new : ObjOk X.prog X.w (upd H a o) s.heap a o) : Inv X pins σ (upd H a o) s := by
  refine ⟨I.ok, I.os, I.bare, ⟨I.base.keep, I.base.slot, fun b u q n hx => ?_, I.base.there, fun b xs q => ?_, fun b u xs q => ?_, fun b ps q => ?_⟩, I.loc, I.cell, ?_, fun x c e => ?_, fun p q => ?_, fun b u e => ?_, I.len⟩
  · have nb : b ≠ a := fun z => by rw [z, h0] at q; cases q
    rw [upd_ne nb]
    exact I.base.free b u q n hx
  · have q2 := I.base.tups b xs q
    rw [upd_ne (ne_of_none q2 hn)]
    exact q2
  · have q2 := I.base.frzs b u xs q
    rw [upd_ne (ne_of_none q2 hn)]
    exact q2
  · obtain ⟨m, q2⟩ := I.base.tbls b ps q
    exact ⟨m, by rw [upd_ne (ne_of_none q2 hn)]; exact q2⟩
  · rw [upd_ne hL.symm]
    exact I.free
  · rw [upd_ne (hc x c e)]
    exact I.freeC x c e
  · obtain ⟨e, n, r⟩ := I.pin p q
    exact ⟨e, by rw [upd_ne (hp p q)]; exact n, r⟩
  · by_cases hb : b = a
    · subst hb
      rw [upd_same] at e
      cases e
      exact new
    · rw [upd_ne hb] at e
      exact (I.hok b u e).stay (fun c v _ q => q) (fun c q => by rw [upd_ne (ne_of_none q hn)]; exact q) fun c xs q => by rw [upd_ne (ne_of_none q hn)]; exact q
theorem gone_ok {X : Cx} {pins : List (Addr × Obj)} {σ : St} {H : Hp} {s : Shared} {M : Model} {A : Around} {E : Value → Shared → Prop} {i : Nat} {n : Str} {pos : Pos} {Q : Unit → Shared → Prop} (I : Inv X pins σ H s) (hN : X.N.Nodup) (hi : X.N[i]? = some n)
    (hk : X.env.scope.names.lookup n = some .local) (h : ∀ s', Inv X pins (σ.set i none) H s' → Q () s') : wpAny M A (do bindName X.env n .none; unbindBehindTheSuite X.env n pos) Q E s := by
  obtain ⟨m, hn, hl⟩ := id I.loc
  have hcls : (X.env.scope.kind == .class || (X.env.scope.kind == .module && X.env.locals != X.env.globals)) = false := by rw [I.ok.kind]; rfl
  have hiσ : i < σ.length := by rw [I.len]; exact (List.getElem?_eq_some_iff.mp hi).1
  obtain ⟨oL, _, _, hoL, _⟩ := id hn
  refine wpAny_nameGoes_keeps hk hn hcls fun h' v hn' hs => ?_
  have below : ∀ b o, X.s₀.heap.get? b = some o → b ≠ X.env.locals := fun b o e => Nat.ne_of_lt (Nat.lt_of_lt_of_le (Heap.lt_size e) I.ok.above)
  refine h _ ⟨I.ok, I.os, I.bare, ⟨fun b o e n hb hx => ?_, fun b o e n hb hx => ?_, I.base.free, fun b o e hx => ?_, I.base.tups, I.base.frzs, I.base.tbls⟩, ⟨_, hn', fun j y v' e1 e2 e3 => ?_⟩, fun y c e => ?_, I.free, I.freeC, fun p hp => ?_, fun b ob e => ?_, by simpa using I.len⟩
  · exact (hs.2 b (below b o e)).trans (I.base.keep b o e n hb hx)
  · obtain ⟨sl, e1⟩ := I.base.slot b o e n hb hx
    exact ⟨sl, (hs.2 b (below b o e)).trans e1⟩
  · obtain ⟨o', e1⟩ := I.base.there b o e hx
    exact ⟨o', (hs.2 b (below b o e)).trans e1⟩
  · have hj : j ≠ i := fun z => by
      rw [z, List.getElem?_set_self hiσ] at e2
      cases e2
    rw [List.getElem?_set_ne (Ne.symm hj)] at e2
    obtain ⟨u', r', q⟩ := hl j y v' e1 e2 e3
    refine ⟨u', r', ?_⟩
    rcases q with ⟨k, e⟩ | ⟨k, c, e, z⟩
    · refine .inl ⟨k, ?_⟩
      have : y ≠ n := fun e => hj (nodup_ix hN e1 (e ▸ hi))
      simp [this, e]
    · exact .inr ⟨k, c, e, z.sameBut hs (I.cne y c e)⟩
  · obtain ⟨w', z⟩ := I.cell y c e
    exact ⟨w', z.sameBut hs (I.cne y c e)⟩
  · obtain ⟨e, n, ne, nf, d⟩ := I.pin p hp
    exact ⟨(hs.2 p.1 ne).trans e, n, ne, nf, d⟩
  · refine (I.hok b ob e).stay (fun c w' hc q => (hs.2 c ?_).trans q) (fun _ q => q) fun _ _ q => q
    rintro rfl
    rcases hc with rfl | hc
    · rw [I.free] at e; cases e
    · rw [I.free] at hc; cases hc
theorem excMatches_own {M : Model} {A : Around} {E : Value → Shared → Prop} {h : Heap} {g : Array GenState} {d : Drawn} {t : Nat} {os : OsState} {e D : Addr} {oe : Obj} {cls : Value} {Q : Bool → Shared → Prop} (he : h.get? e = some oe) (hcls : oe.cls = cls)
    (O : OwnExc h D) (L : PySem.W.Looks M h (isSubtype cls (.ref D)) true) (hq : Q true ⟨h, g, d, t, os⟩) : wpAny M A (excMatches (.ref e) (.ref D)) Q E ⟨h, g, d, t, os⟩ := by
  obtain ⟨b1, b2, b3, b4, b5, b6, b7, b8, b9, b10, b11, b12, b13, b14, b15, b16, b17, hD, hN, hni, T⟩ := O
  have hcB : (Value.ref D :: b1).contains (.type "BaseException") = true := by rw [List.contains_cons, T.hasType PySem.F.excBase_ValueError.hasBase, Bool.or_true]
  have f := tc_notTuple
  unfold excMatches
  repeat (first | (with_reducible refine wpAny_loadPart_at he ?_; rw [hcls]) | with_reducible refine wpAny_loadPart_at hD ?_ | (with_reducible refine wpAny_isSubtype_exc hD ?_; rw [hcB]) | (with_reducible refine L.at ?_) | wp_step)
  exact hq
def Cx.inExc (X : Cx) (ea : Addr) : Cx := { X with A := X.A.mark (some (.ref ea)), calm := false }
theorem Inv.toExc {X : Cx} {pins : List (Addr × Obj)} {σ : St} {H : Hp} {s : Shared} {ea : Addr} (I : Inv X pins σ H s) (hf : (X.A.mark (some (.ref ea))).frames = some X.stack) : Inv (X.inExc ea) pins σ H s :=
  ⟨⟨I.ok.mod, I.ok.kind, I.ok.glob, I.ok.blt, I.ok.above, I.ok.inj, I.ok.has, I.ok.cab, (by intro z; cases z), hf, I.ok.stk, I.ok.exf, I.ok.bs, I.ok.bsz, I.ok.noex, I.ok.exfs, I.ok.funs, I.ok.frf⟩, I.os, I.bare, I.base, I.loc, I.cell, I.free, I.freeC, I.pin, I.hok, I.len⟩
theorem Inv.ofExc {X : Cx} {pins : List (Addr × Obj)} {σ : St} {H : Hp} {s : Shared} {ea : Addr} (I : Inv (X.inExc ea) pins σ H s) (ok : X.Ok) : Inv X pins σ H s :=
  ⟨ok, I.os, I.bare, I.base, I.loc, I.cell, I.free, I.freeC, I.pin, I.hok, I.len⟩
structure ExcKit5 (K : PySem.W.Frag) (C : Addr) : Prop where
  ga : PySem.W.findIn K (.ref C) "__getattribute__" = some (some (.builtin "BaseException.__getattribute__"))
  gn : PySem.W.findIn K (.ref C) "__getattr__" = some none
  cl : PySem.W.findIn K (.ref C) "__class__" = some (some (.builtin "object.__class__"))
  mb : PySem.W.mroIn K C (.type "BaseException") = some true
  mo : PySem.W.mroIn K C (.type "object") = some true
section
open Builtin Builtin.ObjectAttr Builtin.Getset_descriptor PySem.W
variable {K : PySem.W.Frag} {prog : Program} {w : World} {A : Around} {E : Value → Shared → Prop} {h : Heap} {g : Array GenState} {d : Drawn} {t : Nat} {os : OsState} {a C : Addr} {o : Obj}
theorem exc_slotIn : splitId "BaseException.__getattribute__" = some ("BaseException", "__getattribute__") := by decide +kernel
theorem exc_kindIn : builtinKind "BaseException.__getattribute__" = some .slot := by decide +kernel
theorem exc_clsGet {R : Result → Shared → Prop} (X : K.In h) (Z : ExcKit5 K C) (hx : h.get? a = some o) (hc : o.cls = .ref C) (hq : R (.ok (.ret (.ref C))) ⟨h, g, d, t, os⟩) :
    codeAny (model prog w) A (.call (.builtin "getset_descriptor.__get__") ⟨[.builtin "object.__class__", .ref a, .ref C], []⟩) R ⟨h, g, d, t, os⟩ := by
  have LT : PySem.W.Looks (model prog w) h (typeOf (.ref a)) (.ref C) := hc ▸ (PySem.W.Looks.ld hx).andThen .now
  have LM := PySem.W.looks_mroIn (M := model prog w) X Z.mo
  refine codeAny_call_builtin PySem.W.KF.slot_gs.plain PySem.W.KF.entry_gs (PySem.W.KF.slot_gs.check _ _ _ _ _ _ _ _ PySem.W.KF.type_class (PySem.W.KF.args_gs _ _ _) ?_)
  unfold Builtin.«getset_descriptor.__get__»
  unfold descrGet
  rw [PySem.W.dga_obj]
  refine wpAny_bind (wpAny_pure ?_)
  unfold descrGetter descrCheckInstance
  unfold descrNameAndClass isInstance
  simp only [PySem.W.KF.owner_class]
  repeat lk
  refine ⟨Code.quiet_builtin _ (by decide +kernel), codeAny_builtin PySem.W.KF.entry_class ?_⟩
  unfold Builtin.«object.__class__»
  unfold shownTypeOf
  repeat lk
  exact hq
theorem exc_clsEntry {tk : Tok} {Q : Fin → Shared → Prop} (X : K.In h) (Z : ExcKit5 K C) (hx : h.get? a = some o) (hc : o.cls = .ref C) (hq : Q (.done (.ret (.ref C))) ⟨h, g, d, t, os⟩) :
    wpAny (model prog w) A (Builtin.«object.__getattribute__» ⟨[.ref a, .str "__class__" tk], []⟩) Q E ⟨h, g, d, t, os⟩ := by
  have LC := PySem.W.looks_findIn (M := model prog w) X Z.cl
  have h5 : (⟨h, g, d, t, os⟩ : Shared).TypeIs (.builtin "object.__class__") "getset_descriptor" := F.typeOf_object_class
  have f5 := F.typeOf_object_class
  have f6 := F.slot_gs_get.lookup
  have f7 := F.slot_gs_set.lookup
  repeat (any_goals (first | assumption | (with_reducible refine wpAny_loadPart_at hx ?_; rw [hc]) | with_reducible refine LC.at ?_ | wp_step))
  refine exc_clsGet X Z hx hc ?_
  repeat (any_goals (first | assumption | wp_step))
theorem exc_clsCheck {M : Model} {v : Value} {Q : Unit → Shared → Prop} (X : K.In h) (Z : ExcKit5 K C) (hx : h.get? a = some o) (hc : o.cls = .ref C) (hq : Q () ⟨h, g, d, t, os⟩) :
    wpAny M A (checkBuiltinCall "BaseException.__getattribute__" ⟨[.ref a, v], []⟩) Q E ⟨h, g, d, t, os⟩ := by
  have LM := PySem.W.looks_mroIn (M := M) X Z.mb
  have LT : PySem.W.Looks M h (typeOf (.ref a)) (.ref C) := hc ▸ (PySem.W.Looks.ld hx).andThen .now
  have ao := F.args_bexc_ga (.ref a) v
  simp only [checkBuiltinCall,exc_kindIn,exc_slotIn]
  refine wpAny_bind ?_
  unfold isInstance
  refine wpAny_bind (LT.at (LM.at ?_))
  repeat (any_goals (first | assumption | wp_step))
theorem exc_clsBy {tk : Tok} {Q : Value → Shared → Prop} (X : K.In h) (Z : ExcKit5 K C) (FB : ExcAttrBase "ValueError" veMro) (hx : h.get? a = some o) (hc : o.cls = .ref C) (hq : Q (.ref C) ⟨h, g, d, t, os⟩) :
    wpAny (model prog w) A (getAttrBy (.ref a) (.str "__class__" tk) false) Q E ⟨h, g, d, t, os⟩ := by
  have LG := PySem.W.looks_findIn (M := model prog w) X Z.ga
  have LN := PySem.W.looks_findIn (M := model prog w) X Z.gn
  have f3 := FB.ga.bind (.ref a)
  have n2 : (Value.builtin "BaseException.__getattribute__" == Value.builtin "object.__getattribute__") = false := by decide +kernel
  have n1 : (onTheHeap (Value.ref C) && (Value.builtin "BaseException.__getattribute__" == Value.builtin "object.__getattribute__")) = false := by rw [n2]; rfl
  repeat (any_goals (first | assumption | (with_reducible refine wpAny_loadPart_at hx ?_; rw [hc]) | with_reducible refine LG.at ?_ | with_reducible refine LN.at ?_ | wp_step))
  refine codeAny_call_builtin FB.ga.plain F.entry_bexc_ga (exc_clsCheck X Z hx hc (exc_clsEntry X Z hx hc ?_))
  repeat (any_goals (first | assumption | wp_step))
theorem exc_clsAttr {Q : Option Value → Shared → Prop} (X : K.In h) (Z : ExcKit5 K C) (FB : ExcAttrBase "ValueError" veMro) (hx : h.get? a = some o) (hc : o.cls = .ref C) (hq : Q (some (.ref C)) ⟨h, g, d, t + 1, os⟩) :
    wpAny (model prog w) A (getAttr? (.ref a) "__class__") Q E ⟨h, g, d, t, os⟩ := by
  unfold getAttr? getAttrBy?
  repeat (any_goals (first | assumption | with_reducible apply exc_clsBy X Z FB hx hc | wp_step))
end
end L2
namespace L2
open PySem PySem.Spec PyProof.Rows
theorem cellOf_ok {env : Env} {x : Str} {c : Addr} (h : env.cells.lookup x = some c) : cellOf env x = pure c := by
  unfold cellOf
  rw [h]
theorem closure_go {env : Env} : ∀ (l : List (Str × NameKind)) (cs : List (Str × Addr)), (∀ y ∈ l, y.2 = .free → ∃ c, env.cells.lookup y.1 = some c) → (∀ x c, cs.lookup x = some c → env.cells.lookup x = some c) →
    ∃ cl, (forIn l cs fun (y : Str × NameKind) r => (if (y.2 == .free) = true then do let c ← cellOf env y.1; pure (ForInStep.yield ((y.1, c) :: r)) else pure (ForInStep.yield r) : Sem (ForInStep (List (Str × Addr))))) = pure cl ∧
      (∀ x c, cl.lookup x = some c → env.cells.lookup x = some c) ∧ (∀ y ∈ l, y.2 = .free → ∃ c, cl.lookup y.1 = some c) ∧ ∀ x, (∃ c, cs.lookup x = some c) → ∃ c, cl.lookup x = some c
  | [], cs, _, hc => ⟨cs, by simp, hc, by simp, fun _ h => h⟩
  | y :: l, cs, hf, hc => by
    have hf' : ∀ z ∈ l, z.2 = .free → ∃ c, env.cells.lookup z.1 = some c := fun z hz => hf z (List.mem_cons_of_mem _ hz)
    by_cases hy : y.2 = .free
    · obtain ⟨c, e⟩ := hf y List.mem_cons_self hy
      have hc' : ∀ x d, List.lookup x ((y.1, c) :: cs) = some d → env.cells.lookup x = some d := fun x d q => by
        rw [List.lookup_cons] at q
        split at q
        · rename_i b
          cases q
          rw [beq_iff_eq.mp b, e]
        · exact hc x d q
      obtain ⟨cl, e1, e2, e3, e4⟩ := closure_go l ((y.1, c) :: cs) hf' hc'
      refine ⟨cl, ?_, e2, fun z hz q => ?_, fun x ⟨d, q⟩ => e4 x ?_⟩
      · rw [List.forIn_cons, if_pos (by rw [hy]; rfl), cellOf_ok e]
        simpa using e1
      · rcases List.mem_cons.mp hz with r | r
        · exact e4 z.1 ⟨c, by rw [r, List.lookup_cons]; simp⟩
        · exact e3 z r q
      · rw [List.lookup_cons]
        split
        · exact ⟨_, rfl⟩
        · exact ⟨d, q⟩
    · obtain ⟨cl, e1, e2, e3, e4⟩ := closure_go l cs hf' hc
      refine ⟨cl, ?_, e2, fun z hz q => ?_, e4⟩
      · rw [List.forIn_cons, if_neg (by simpa using hy)]
        simpa using e1
      · rcases List.mem_cons.mp hz with r | r
        · rw [r] at q; exact absurd q hy
        · exact e3 z r q
theorem closure_ok {scope : Scope} {env : Env} (h : ∀ y ∈ scope.names, y.2 = .free → ∃ c, env.cells.lookup y.1 = some c) :
    ∃ cl, closureFor scope env = pure cl ∧ (∀ x c, cl.lookup x = some c → env.cells.lookup x = some c) ∧ ∀ y ∈ scope.names, y.2 = .free → ∃ c, cl.lookup y.1 = some c := by
  obtain ⟨cl, e1, e2, e3, _⟩ := closure_go scope.names [] h (by simp)
  refine ⟨cl, ?_, e2, e3⟩
  unfold closureFor
  simp only [bind_pure]
  exact e1
theorem compLoop_any {P : Program} {w : World} {A : Around} {R : Result → Shared → Prop} {s : Shared} {elt target iter : Expr} {ifs : List Expr} {scope : Scope} {pos : Pos} {it acc : Value} {env : Env} {Z : Value → Shared → Prop} (J : Nat → Shared → Prop)
    (hZ : Z = notedBy (model P w) A env fun e s' => R (.error e) s')
    (turn : ∀ n s, J n s → wpAny (model P w) A (pyNext it) (fun r s1 => match r with
      | none => R (.ok .next) s1
      | some v => wpAny (model P w) A (letOwnedTupleGo target it v) (fun _ s2 => wpAny (model P w) A (assign target env v) (fun _ s3 =>
          wpAny (model P w) A (forIn ifs true fun c r => if r = true then do let ok ← isTrue c env (eval c env); pure (ForInStep.yield ok) else pure (ForInStep.yield r)) (fun ok s4 =>
            if ok = true then wpAny (model P w) A (eval elt env) (fun x s5 => wpAny (model P w) A (call (.builtin "list.append") [acc, x]) (fun _ s6 => ∃ m, m < n ∧ J m s6) Z s5) Z s4
            else ∃ m, m < n ∧ J m s4) Z s3) Z s2) Z s1) Z s)
    (n : Nat) (h : J n s) : codeAny (model P w) A (.compLoop (.ListComp elt [⟨target, iter, ifs, 0⟩] scope pos) 0 it acc env) R s := by
  subst hZ
  refine codeAny_loop rfl J (fun n s hJ => ?_) n h
  show wpAny _ _ (Sem.onRaise (compTurn (.ListComp elt [⟨target, iter, ifs, 0⟩] scope pos) 0 it acc env) fun x => do noteFrame x env; theTreesLotGoes x) _ _ s
  refine wpAny_noted ?_
  rw [compTurn_list]
  refine wpAny_bind (wpAny_standAt (wpAny_bind (thn (turn n s hJ) fun r s1 h1 => ?_)))
  cases r with
  | none => exact wpAny_pure h1
  | some v =>
    refine wpAny_bind (thn h1 fun _ s2 h2 => wpAny_bind (thn h2 fun _ s3 h3 => wpAny_bind (thn h3 fun ok s4 h4 => ?_)))
    cases ok with
    | false => exact wpAny_pure ⟨rfl, h4⟩
    | true => exact wpAny_bind (wpAny_bind (thn h4 fun x s5 h5 => wpAny_bind (thn h5 fun _ s6 h6 => wpAny_pure (wpAny_pure ⟨rfl, h6⟩))))
def PTs (X : Cx) (ifs : List Expr) (t : TT) : Prop := ∀ (pins : List (Addr × Obj)) (s : Shared) (σ : St) (H : Hp) (Q : Bool → Hp → Prop), Inv X pins σ H s → t σ H Q →
  wpAny (model X.prog X.w) X.A (forIn ifs true fun c r => if r = true then do let ok ← isTrue c X.env (eval c X.env); pure (ForInStep.yield ok) else pure (ForInStep.yield r)) (TP X pins σ Q) X.xe s
def tNoTest : TT := fun _ H Q => Q true H
theorem pts_nil {X : Cx} : PTs X [] tNoTest := fun _ _ _ H _ I h => wpAny_tests_nil ⟨H, I, h⟩
def capS (cap : List (Option Nat)) (σ : St) : St := cap.map fun o => o.bind fun j => (σ[j]?).join
def tComp (wi : TI) (g : TG) (tt : TT) (te : TE) (cap : List (Option Nat)) : TE := fun σ H Q => wi σ H fun J H1 => ∀ D, H1 D = none → ∃ W : Nat → Nat → St → Hp → Prop, (∃ m, W 0 m (capS cap σ) (upd H1 D (.lst []))) ∧ ∀ i m σc Hc, W i m σc Hc →
  (J.stop i Hc ∧ Q (.ref D) Hc) ∨ (J.go i Hc ∧ ∃ N : St → Hp → Prop, (∀ σ' H', N σ' H' → ∃ m', m' < m ∧ W (i + 1) m' σ' H') ∧ ∀ x H', J.yld i Hc x H' → g x σc H' fun σ2 H2 => tt σ2 H2 fun b H3 => if b = true then te σ2 H3 fun y H4 => rAppend (.ref D) [y] H4 fun _ H5 => N σ2 H5 else N σ2 H3)
def Cx.blk (X : Cx) (Nc : List Str) (scope : Scope) (cl : List (Str × Addr)) (s : Shared) (H : Hp) (fp : List Addr) : Cx := { X with
  N := Nc, s₀ := s, H₀ := H, env := compEnvC scope cl s.heap.objs.size X.env, outer := X.stack, stack := X.stack, ex := fp, fn := fun _ => false, pn := [], xe := fun _ _ => False }
structure BlkOk (sc : Scope) (N Nc : List Str) (cap : List (Option Nat)) (scope : Scope) : Prop where
  kind : scope.kind = .function
  nocell : ∀ y ∈ scope.names, y.2 ≠ .cell
  free : ∀ y ∈ scope.names, y.2 = .free → sc.names.lookup y.1 = some .cell ∨ sc.names.lookup y.1 = some .free
  once : ∀ y ∈ scope.names, scope.names.lookup y.1 = some y.2
  nd : Nc.Nodup
  len : cap.length = Nc.length
  cap : ∀ (i : Nat) (y : Str) (j : Nat), Nc[i]? = some y → cap[i]? = some (some j) → N[j]? = some y ∧ scope.names.lookup y = some .free
def blkChk (sc : Scope) (N Nc : List Str) (cap : List (Option Nat)) (scope : Scope) : Bool :=
  scope.kind == .function && scope.names.all (fun y => y.2 != .cell && scope.names.lookup y.1 == some y.2 && (y.2 != .free || sc.names.lookup y.1 == some .cell || sc.names.lookup y.1 == some .free)) && decide Nc.Nodup && cap.length == Nc.length
    && (Nc.zip cap).all fun p => p.2.all fun j => N[j]? == some p.1 && scope.names.lookup p.1 == some .free
theorem BlkOk.of {sc : Scope} {N Nc : List Str} {cap : List (Option Nat)} {scope : Scope} (h : blkChk sc N Nc cap scope = true) : BlkOk sc N Nc cap scope := by
  unfold blkChk at h
  simp only [Bool.and_eq_true,beq_iff_eq,List.all_eq_true,bne_iff_ne,ne_eq,Bool.or_eq_true,decide_eq_true_eq] at h
  obtain ⟨⟨⟨⟨h1, h2⟩, h3⟩, h4⟩, h5⟩ := h
  refine ⟨h1, fun y hy => (h2 y hy).1.1, fun y hy hf => ?_, fun y hy => (h2 y hy).1.2, h3, h4, fun i y j e1 e2 => ?_⟩
  · rcases (h2 y hy).2 with (q | q) | q
    · exact absurd hf q
    · exact .inl q
    · exact .inr q
  · have m : (y, some j) ∈ Nc.zip cap := by
      refine List.mem_of_getElem? (i := i) ?_
      rw [List.getElem?_zip_eq_some]
      exact ⟨e1, e2⟩
    have z := h5 _ m
    simpa using z
theorem relabel_lookup {env : Env} {x : Str} : ∀ {names : List (Str × NameKind)} {k : NameKind}, ((names.map fun (n, k) => if (k == NameKind.free && env.scope.kind == .function && env.kindOf n == some .cell) then (n, NameKind.cell) else (n, k)).lookup x = some k) → k ≠ .cell ∧ names.lookup x = some k ∨ (k = .cell ∧ (names.lookup x = some .cell ∨ names.lookup x = some .free))
  | [], _, h => by simp at h
  | (n, q) :: r, k, h => by
    have ih := @relabel_lookup env x r k
    rw [List.map_cons] at h
    dsimp only at h
    by_cases hx : (x == n) = true
    · by_cases hc : (q == NameKind.free && env.scope.kind == .function && env.kindOf n == some .cell) = true
      · rw [if_pos hc, List.lookup_cons, hx] at h
        cases h
        rw [Bool.and_eq_true, Bool.and_eq_true] at hc
        refine .inr ⟨rfl, .inr ?_⟩
        rw [List.lookup_cons, hx]
        exact congrArg some (beq_iff_eq.mp hc.1.1)
      · rw [if_neg hc, List.lookup_cons, hx] at h
        cases h
        rw [List.lookup_cons, hx]
        by_cases z : q = .cell
        · exact .inr ⟨z, .inl (congrArg some z)⟩
        · exact .inl ⟨z, rfl⟩
    · have hx' : (x == n) = false := by simpa using hx
      rw [List.lookup_cons, hx']
      refine ih ?_
      by_cases hc : (q == NameKind.free && env.scope.kind == .function && env.kindOf n == some .cell) = true
      · rw [if_pos hc, List.lookup_cons, hx'] at h
        exact h
      · rw [if_neg hc, List.lookup_cons, hx'] at h
        exact h
section
variable {X : Cx} {pins : List (Addr × Obj)} {σ : St} {H : Hp} {s : Shared}
theorem blk_inv {Nc : List Str} {cap : List (Option Nat)} {scope : Scope} {cl : List (Str × Addr)} {fp : List Addr} {h1 : Heap} {tk : Nat} {m1 : Str → Option Value} (I : Inv X pins σ H s) (B : BlkOk X.env.scope X.N Nc cap scope)
    (hsub : ∀ x c, cl.lookup x = some c → X.env.cells.lookup x = some c) (hfr : ∀ y ∈ scope.names, y.2 = .free → ∃ c, cl.lookup y.1 = some c) (hf : ∀ b ∈ fp, FpOk X pins H b) (hin : ∀ b ∈ fp, b < s.heap.objs.size)
    (hk : ∀ b o, s.heap.get? b = some o → h1.get? b = some o) (hn : h1.Ns s.heap.objs.size m1) : Inv (X.blk Nc scope cl s H fp) [] (capS cap σ) H { s with heap := h1, toks := tk } := by
  have ok := I.ok
  have bsz : X.base.objs.size ≤ s.heap.objs.size := Nat.le_trans ok.bsz I.sz
  refine ⟨⟨ok.mod, B.kind, ok.glob, ok.blt, Nat.le_refl _, fun x y c h1 h2 => ok.inj x y c (hsub x c h1) (hsub y c h2), fun x hx => ?_, (by intro x c z; cases z), ok.hd, ok.frames, .inl rfl, fun b hb => ⟨Nat.ne_of_lt (hin b hb), fun x c e => (hf b hb).2.2.2.2.1 x c (hsub x c e)⟩,
    I.bs, bsz, fun b o e hb => ?_, fun b hb z => ?_, I.stack, I.stkFree⟩, rfl, I.bare, Un.kept hk, ⟨m1, hn, fun i y v e1 e2 e3 => ?_⟩, fun x c e => ?_, I.hok.fresh (Nat.le_refl _), fun x c e => I.freeC x c (hsub x c e), (by intro p hp; cases hp), I.hok.kept hk, ?_⟩
  · have look : ∀ k, (relabel scope X.env).names.lookup x = some k → k = .cell ∨ k = .free → ∃ c, cl.lookup x = some c := fun k q hk => by
      rcases relabel_lookup q with ⟨n1, n2⟩ | ⟨_, n2 | n2⟩
      · rcases hk with r | r
        · exact absurd r n1
        · exact hfr (x, k) (PySem.mem_of_lookup n2) r
      · exact absurd rfl (B.nocell _ (PySem.mem_of_lookup n2))
      · exact hfr (x, .free) (PySem.mem_of_lookup n2) rfl
    rcases hx with q | q
    · exact look _ q (.inl rfl)
    · exact look _ q (.inr rfl)
  · rcases (hf b hb).2.2.2.1 with q | q
    · exact ok.noex b o e q
    · exact absurd (Nat.lt_of_lt_of_le (Heap.lt_size e) (Nat.le_trans ok.bsz q)) (Nat.lt_irrefl _)
  · rcases List.mem_cons.mp (I.stkSub b z) with q | q
    · exact (hf b hb).2.1 q
    · exact (hf b hb).2.2.1 q
  · have e2' : (cap[i]?).map (fun o => o.bind fun j => (σ[j]?).join) = some (some v) := by rw [← List.getElem?_map]; exact e2
    obtain ⟨o, ho, eo⟩ := Option.map_eq_some_iff.mp e2'
    obtain ⟨j, rfl, ej⟩ := Option.bind_eq_some_iff.mp eo
    have ej' : σ[j]? = some (some v) := by
      cases q : σ[j]? with
      | none => rw [q] at ej; cases ej
      | some z => rw [q] at ej; cases ej; rfl
    obtain ⟨c1, c2⟩ := B.cap i y j e1 ho
    have vis := B.free (y, .free) (PySem.mem_of_lookup c2) rfl
    obtain ⟨m, _, hl⟩ := I.loc
    obtain ⟨u, r, lk⟩ := hl j y v c1 ej' (.inr vis)
    obtain ⟨c', ec⟩ := hfr (y, .free) (PySem.mem_of_lookup c2) rfl
    have ec2 := hsub _ _ ec
    rcases lk with ⟨kl, _⟩ | ⟨_, c, e, z⟩
    · have kl' : X.env.scope.names.lookup y = some .local := kl
      rcases vis with q | q
      · have q' : X.env.scope.names.lookup y = some .cell := q
        rw [kl'] at q'; cases q'
      · have q' : X.env.scope.names.lookup y = some .free := q
        rw [kl'] at q'; cases q'
    · have ecc : X.env.cells.lookup y = some c' := ec2
      rw [e] at ecc
      cases ecc
      refine ⟨u, r, .inr ⟨?_, _, ec, ?_⟩⟩
      · rcases e3 with q | q | q
        · rcases relabel_lookup q with ⟨_, n2⟩ | ⟨n1, _⟩
          · rw [c2] at n2; cases n2
          · cases n1
        · exact .inl q
        · exact .inr q
      · obtain ⟨o, ho, hd⟩ := z
        exact ⟨o, hk _ _ ho, hd⟩
  · obtain ⟨v, o, ho, hd⟩ := I.cell x c (hsub x c e)
    exact ⟨v, o, hk _ _ ho, hd⟩
  · show (capS cap σ).length = Nc.length
    rw [capS, List.length_map, B.len]
theorem blk_out {Nc : List Str} {scope : Scope} {cl : List (Str × Addr)} {fp : List Addr} {σc : St} {Hc : Hp} {s' : Shared} {h' : Heap} (I : Inv X pins σ H s) (hf : ∀ b ∈ fp, FpOk X pins H b) (J : Inv (X.blk Nc scope cl s H fp) [] σc Hc s')
    (hs : Heap.SameBut s.heap.objs.size s'.heap h') : Inv X pins σ Hc { s' with heap := h' } := by
  have ne : ∀ b o, s.heap.get? b = some o → b ≠ s.heap.objs.size := fun b o e => Nat.ne_of_lt (Heap.lt_size e)
  have u := J.base
  refine I.call' (ch := fp) J.os ⟨fun b o e n hb hx => (hs.2 b (ne b o e)).trans (u.keep b o e n hb hx), fun b o e n hb hx => ?_, u.free, fun b o e hx => ?_, u.tups, u.frzs, u.tbls⟩ (fun b ob e => ?_) J.bare fun b hb => ⟨(hf b hb).2.2.2.1, (hf b hb).2.1, (hf b hb).2.2.2.2.1, (hf b hb).2.2.2.2.2⟩
  · obtain ⟨sl, q⟩ := u.slot b o e n hb hx
    exact ⟨sl, (hs.2 b (ne b o e)).trans q⟩
  · obtain ⟨o', q⟩ := u.there b o e hx
    exact ⟨o', (hs.2 b (ne b o e)).trans q⟩
  · have hC : Hc s.heap.objs.size = none := J.free
    refine (J.hok b ob e).stay (fun c w' hc q => (hs.2 c ?_).trans q) (fun _ q => q) fun _ _ q => q
    rintro rfl
    rcases hc with z | hc
    · rw [← z, hC] at e; cases e
    · rw [hC] at hc; cases hc
end
theorem Inv.turns {X : Cx} {pins : List (Addr × Obj)} {σ : St} {H : Hp} {s : Shared} {h' : Heap} {t' : Nat} {ch : List Addr} (I : Inv X pins σ H s) (k : ∀ b o, b ∉ ch → s.heap.get? b = some o → h'.get? b = some o) (hf : ∀ b ∈ ch, FpOk X pins H b) : Inv X pins σ H { s with heap := h', toks := t' } := by
  refine I.call (g' := s.gens) (d' := s.drawn) (ch := ch) ⟨fun b o e _ _ hx => k b o hx e, fun b o e _ _ hx => ⟨o.slots, k b o hx e⟩, fun _ _ _ n _ => n, fun b o e hx => ⟨o, k b o hx e⟩, fun _ _ q => q, fun _ _ _ q => q, fun _ ps q => ⟨#[], by rw [q]; simp⟩⟩ (fun b u e => ?_) I.bare
    fun b hb => ⟨(hf b hb).2.2.2.1, (hf b hb).2.1, (hf b hb).2.2.2.2.1, (hf b hb).2.2.2.2.2⟩
  refine (I.hok b u e).stay (fun c v hc q => k c v (fun z => ?_) q) (fun _ q => q) fun _ _ q => q
  have n := (hf c z).1
  rcases hc with r | r
  · rw [r, e] at n; cases n
  · rw [r] at n; cases n
theorem comp_core {X : Cx} {pins : List (Addr × Obj)} {s : Shared} {σ : St} {H : Hp} {Q : VK} {sc : Scope} {N Nc : List Str} {cap : List (Option Nat)} {elt tg iter : Expr} {ifs : List Expr} {scope : Scope} {pos pos' : Pos} {wi : TI} {g : TG} {tt : TT} {te : TE} {use : Option (Value → Sem Unit)} {QQ : Value → Shared → Prop}
    (hc : X.calm = true) (hsc : X.env.scope = sc) (hN : X.N = N) (B : BlkOk sc N Nc cap scope) (hi : PI X tg iter wi)
    (hg : ∀ cl s H fp, PG (X.blk Nc scope cl s H fp) tg g) (ht : ∀ cl s H fp, PTs (X.blk Nc scope cl s H fp) ifs tt) (he : ∀ cl s H fp, PE (X.blk Nc scope cl s H fp) elt te)
    (hs : ∀ x, foldedSetIterable iter X.env x = pure x) (I : Inv X pins σ H s) (h : tComp wi g tt te cap σ H Q)
    (fin : ∀ (s3 : Shared) (H3 : Hp) (cl : List (Str × Addr)) (fp : List Addr) (D : Addr) (σc : St) (Hc : Hp) (s6 : Shared), Inv X pins σ H3 s3 → (∀ b ∈ fp, FpOk X pins H3 b) → Inv (X.blk Nc scope cl s3 H3 fp) [] σc Hc s6 → Q (.ref D) Hc → compPost (model X.prog X.w) X.A X.xe use QQ (.ref D) s3.heap.objs.size (.ok .next) s6) :
    wpAny (model X.prog X.w) X.A (comprehension (.ListComp elt [⟨tg, iter, ifs, 0⟩] scope pos) scope X.env pos' (newList []) false (eval iter X.env) use) QQ X.xe s := by
  subst hsc hN
  obtain ⟨cl, hclos, hsub, hfr⟩ := closure_ok (scope := scope) (env := X.env) fun y hy hf => I.ok.has y.1 (B.free y hy hf)
  refine wpAny_comprehension_free (use := use) rfl hs hclos B.kind (fun y hy hl => by rw [B.once y hy, hl]) (thn (hi pins s σ H _ I h) fun v s1 h1 => thn h1 fun itv s2 h2 => ?_)
  obtain ⟨it, fp, tn, J, H2, rfl, I2, T, st2, f2, hw⟩ := h2
  refine wpAny_newObj_type ?_
  have hfree : H2 s2.heap.objs.size = none := I2.hok.fresh (Nat.le_refl _)
  have I3 := I2.laid (t' := s2.toks) (o := .lst []) (fun b u e => Heap.get?_push_of_some { cls := .type "list", dict := none, data := .seq ([] : List Value).toArray } e) (Nat.le_refl _) ⟨by decide, [], 0, .nil, Heap.get?_push_size _ rfl⟩
  obtain ⟨W, ⟨m0, w0⟩, turn⟩ := hw _ hfree
  have keep23 : ∀ b o, s2.heap.get? b = some o → (s2.heap.push { cls := .type "list", dict := none, data := .seq ([] : List Value).toArray }).get? b = some o := fun b o e => Heap.get?_push_of_some _ e
  have hin : ∀ b ∈ fp, b < s2.heap.objs.size := fun b hb => let ⟨o, e, _⟩ := T.obj 0 _ st2 b hb; Heap.lt_size e
  have f3 : ∀ b ∈ fp, FpOk X pins (upd H2 s2.heap.objs.size (.lst [])) b := fun b hb => ⟨by rw [upd_ne (Nat.ne_of_lt (hin b hb))]; exact (f2 b hb).1, (f2 b hb).2⟩
  have st3 := T.keep 0 _ _ st2 fun b _ o e => keep23 b o e
  have hin3 : ∀ b ∈ fp, b < (s2.heap.push { cls := .type "list", dict := none, data := .seq ([] : List Value).toArray }).objs.size := fun b hb => let ⟨o, e, _⟩ := T.obj 0 _ st3 b hb; Heap.lt_size e
  clear keep23 hin
  generalize s2.heap.push { cls := .type "list", dict := none, data := .seq ([] : List Value).toArray } = h3 at I3 st3 hin3 ⊢
  generalize upd H2 s2.heap.objs.size (.lst []) = H3 at I3 f3 w0
  generalize s2.heap.objs.size = D at hfree w0 turn ⊢
  refine wpAny_newFunctionEnv B.nocell (by intro y hy; cases hy) (fun h1 hns hsb => ?_) B.kind
  have keep : ∀ b o, h3.get? b = some o → h1.get? b = some o := fun b o e => (hsb.2 b (Nat.ne_of_lt (Heap.lt_size e))).trans (Heap.get?_push_of_some _ e)
  have I4 := blk_inv (tk := s2.toks + ([] : List (Str × Value)).length) I3 B hsub hfr f3 hin3 keep hns
  have st4 := T.keep 0 _ _ st3 fun b _ o e => keep b o e
  have stat : ∀ {H' : Hp}, (∀ b ∈ fp, H' b = none) → ∀ b ∈ fp, FpOk (X.blk Nc scope cl { s2 with heap := h3, toks := s2.toks } H3 fp) [] H' b := fun hn b hb =>
    ⟨hn b hb, Nat.ne_of_lt (hin3 b hb), fun z => by
      rcases List.mem_cons.mp (I3.stkSub b z) with q | q
      · exact (f3 b hb).2.1 q
      · exact (f3 b hb).2.2.1 q, .inl hb, fun x c e => (f3 b hb).2.2.2.2.1 x c (hsub x c e), by intro p hp; cases hp⟩
  have hcb : (X.blk Nc scope cl { s2 with heap := h3, toks := s2.toks } H3 fp).calm = true := hc
  have loop : codeAny (model X.prog X.w) X.A (.compLoop (.ListComp elt [⟨tg, iter, ifs, 0⟩] scope pos) 0 (.ref it) (.ref D) (compEnvC scope cl h3.objs.size X.env)) (compPost (model X.prog X.w) X.A X.xe use QQ (.ref D) h3.objs.size) { s2 with heap := h1, toks := s2.toks + ([] : List (Str × Value)).length } := by
    refine compLoop_any (fun n s' => ∃ i σ' H', Inv (X.blk Nc scope cl { s2 with heap := h3, toks := s2.toks } H3 fp) [] σ' H' s' ∧ tn i s'.heap ∧ (∀ b ∈ fp, H' b = none) ∧ W i n σ' H') rfl ?_ m0 ⟨0, _, H3, I4, st4, fun b hb => (f3 b hb).1, w0⟩
    rintro n s5 ⟨i, σ5, H5, I5, st5, fr5, w5⟩
    rcases turn i n σ5 H5 w5 with ⟨stop, qn⟩ | ⟨go, N', hN', step⟩
    · refine thn (T.done (X.blk Nc scope cl { s2 with heap := h3, toks := s2.toks } H3 fp) rfl rfl rfl hcb i [] s5 σ5 H5 _ I5 (stat fr5) st5 stop) fun r s6 hQ' => ?_
      obtain ⟨hr, I6⟩ := hQ'
      subst hr
      exact fin { s2 with heap := h3, toks := s2.toks } H3 cl fp D σ5 H5 s6 I3 f3 I6 qn
    · refine thn (T.item (X.blk Nc scope cl { s2 with heap := h3, toks := s2.toks } H3 fp) rfl rfl rfl hcb i [] s5 σ5 H5 _ I5 (stat fr5) st5 go) fun r s6 hQ' => ?_
      obtain ⟨u, hr, h6⟩ := hQ'
      subst hr
      refine thn h6 fun _ s7 hQ' => ?_
      obtain ⟨x, H7, I7, r7, y7, st7, fr7⟩ := hQ'
      have I7' := I7.pinned (stat fr7) (T.obj _ _ st7)
      refine wpAny_mono (hg cl _ H3 fp _ s7 σ5 H7 x u _ I7' r7 (step x H7 y7)) (fun _ s8 hQ' => ?_) fun _ _ z => z.elim
      obtain ⟨σ8, H8, I8, q8⟩ := hQ'
      have again : ∀ {H9 : Hp} {s9 : Shared} {m : Nat}, Inv (X.blk Nc scope cl { s2 with heap := h3, toks := s2.toks } H3 fp) ([] ++ pinsAt fp s7.heap) σ8 H9 s9 → m < n → W (i + 1) m σ8 H9 → ∃ m, m < n ∧ ∃ i σ' H', Inv (X.blk Nc scope cl { s2 with heap := h3, toks := s2.toks } H3 fp) [] σ' H' s9 ∧ tn i s9.heap ∧ (∀ b ∈ fp, H' b = none) ∧ W i m σ' H' := fun {H9 s9 m} I9 hm w9 => by
        refine ⟨m, hm, i + 1, σ8, H9, I9.unpinned, T.keep _ _ _ st7 fun b hb o e => (I9.pin (b, o) (List.mem_append_right _ (List.mem_append_right _ (mem_pinsAt hb e)))).1, fun b hb => ?_, w9⟩
        obtain ⟨o, e, d⟩ := T.obj _ _ st7 b hb
        exact (I9.pin (b, o) (List.mem_append_right _ (List.mem_append_right _ (mem_pinsAt hb e)))).2.1
      refine wpAny_mono (ht cl _ H3 fp _ s8 σ8 H8 _ I8 q8) (fun b s9 hQ' => ?_) fun _ _ z => z.elim
      obtain ⟨H9, I9, q9⟩ := hQ'
      cases b with
      | false =>
        rw [if_neg (by decide)] at q9
        obtain ⟨m', hm, w9⟩ := hN' _ _ q9
        exact again I9 hm w9
      | true =>
        rw [if_pos rfl] at q9
        refine wpAny_mono (he cl _ H3 fp _ s9 σ8 H9 _ I9 q9) (fun u s10 hQ' => ?_) fun _ _ z => z.elim
        obtain ⟨y, H10, I10, r10, q10⟩ := hQ'
        refine wpAny_mono (mt_append (X := X.blk Nc scope cl { s2 with heap := h3, toks := s2.toks } H3 fp) _ s10 σ8 H10 (.ref D) [y] (.ref D) [u] _ I10 rfl (.cons r10 .nil) q10) (fun _ s11 hQ' => ?_) fun _ _ z => z.elim
        obtain ⟨_, H11, I11, _, q11⟩ := hQ'
        obtain ⟨m', hm, w11⟩ := hN' _ _ q11
        exact again I11 hm w11
  exact codeAny_compStart_list loop (T.self _ 0 _ _ _ st4 loop)
theorem ps_setComp {X : Cx} {i : Nat} {y : Str} {py spos : Pos} {sc : Scope} {N Nc : List Str} {cap : List (Option Nat)} {elt tg iter : Expr} {ifs : List Expr} {scope : Scope} {pos : Pos} {wi : TI} {g : TG} {tt : TT} {te : TE} (hnd : X.N.Nodup) (hix : X.N[i]? = some y) (hl : X.env.scope.names.lookup y = some .local)
    (hc : X.calm = true) (hsc : X.env.scope = sc) (hN : X.N = N) (B : BlkOk sc N Nc cap scope) (hi : PI X tg iter wi)
    (hg : ∀ cl s H fp, PG (X.blk Nc scope cl s H fp) tg g) (ht : ∀ cl s H fp, PTs (X.blk Nc scope cl s H fp) ifs tt) (he : ∀ cl s H fp, PE (X.blk Nc scope cl s H fp) elt te)
    (hsw : swapsWith (.ListComp elt [⟨tg, iter, ifs, 0⟩] scope pos) (some (.Name y py)) spos.line X.env = pure true := by rfl)
    (hs : ∀ x, foldedSetIterable iter X.env x = pure x := by intro _; rfl) : PS X (.Assign [.Name y py] (.ListComp elt [⟨tg, iter, ifs, 0⟩] scope pos) spos) (tAsg (tComp wi g tt te cap) (gName i)) := by
  intro pins s σ H D0 I h
  rw [exec_Assign_Name_used _ _ _ _ hsw]
  refine wpAny_bind (wpAny_standAt (wpAny_bind (wpAny_bind (thn (comp_core (use := some (assign (.Name y py) X.env)) (QQ := fun _ s' => SP X pins D0 .next s') hc hsc hN B hi hg ht he hs I h fun s3 H3 cl fp D σc Hc s6 I3 f3 I6 q => ?_) fun _ s' hq => wpAny_pure (wpAny_pure hq)))))
  have I6x : Inv X pins σ Hc s6 := blk_out I3 f3 I6 (Heap.SameBut.refl ..)
  obtain ⟨m, hn, _⟩ := id I6.loc
  have hC : Hc s3.heap.objs.size = none := I6.free
  have fpC := I3.fpOk (b := s3.heap.objs.size) (Nat.le_refl _) hC
  refine wpAny_assign_Name (store_ok2 I6x hnd hix (.inl hl) (v := .ref D) rfl (fun s7 I7 ch => ?_) (.inr hl))
  obtain ⟨a, same, ha⟩ := ch
  have nC : s3.heap.objs.size ≠ a := by
    rcases ha with r | r
    · rw [r]; exact fpC.2.1
    · exact (fpC.2.2.2.2.1 _ _ r).symm
  refine ⟨m, hn.sameBut same nC, fun h' hs' => ⟨_, _, I7.turns (t' := s7.toks) (ch := [s3.heap.objs.size]) (fun b o hb e => (hs'.2 b (by simpa using hb)).trans e) fun b hb => ?_, q⟩⟩
  have e : b = s3.heap.objs.size := by simpa using hb
  rw [e]
  exact fpC
theorem comp_range {lo : Int} {n : Nat} {g : TG} {tt : TT} {te : TE} {σ : St} {H : Hp} {D : Addr} {Q : VK} (Pv : Nat → List V → St → Hp → Prop) (h0 : Pv 0 [] σ (upd H D (.lst [])))
    (hs : ∀ i ys σ H, i < n → H D = some (.lst ys) → Pv i ys σ H → g (.int (lo + i)) σ H fun σ2 H2 => tt σ2 H2 fun b H3 => if b = true then te σ2 H3 fun y H4 => rAppend (.ref D) [y] H4 fun _ H5 => ∃ ys, H5 D = some (.lst ys) ∧ Pv (i + 1) ys σ2 H5 else ∃ ys, H3 D = some (.lst ys) ∧ Pv (i + 1) ys σ2 H3)
    (hd : ∀ ys σ H, H D = some (.lst ys) → Pv n ys σ H → Q (.ref D) H) :
    ∃ W : Nat → Nat → St → Hp → Prop, (∃ m, W 0 m σ (upd H D (.lst []))) ∧ ∀ i m σc Hc, W i m σc Hc →
      ((Itr lo n).stop i Hc ∧ Q (.ref D) Hc) ∨ ((Itr lo n).go i Hc ∧ ∃ N : St → Hp → Prop, (∀ σ' H', N σ' H' → ∃ m', m' < m ∧ W (i + 1) m' σ' H') ∧ ∀ x H', (Itr lo n).yld i Hc x H' → g x σc H' fun σ2 H2 => tt σ2 H2 fun b H3 => if b = true then te σ2 H3 fun y H4 => rAppend (.ref D) [y] H4 fun _ H5 => N σ2 H5 else N σ2 H3) := by
  refine ⟨fun i m σ H => m = n - i ∧ i ≤ n ∧ ∃ ys, H D = some (.lst ys) ∧ Pv i ys σ H, ⟨_, rfl, Nat.zero_le _, [], upd_same, h0⟩, ?_⟩
  rintro i m σ H ⟨rfl, hi, ys, hD, pv⟩
  by_cases hlt : i < n
  · refine .inr ⟨hlt, fun σ H => ∃ ys, H D = some (.lst ys) ∧ Pv (i + 1) ys σ H, fun σ' H' p' => ⟨_, by (first|lia|omega), rfl, hlt, p'⟩, fun x H' yl => ?_⟩
    obtain ⟨e, yl⟩ := yl
    subst e yl
    exact hs i ys σ _ hlt hD pv
  · have e : i = n := by (first|lia|omega)
    subst e
    exact .inl ⟨Nat.le_refl _, hd ys σ H hD pv⟩
end L2
namespace L2
open PySem PySem.Spec PyProof.Rows
def rSum (K : PySem.W.Frag) : List V → Hp → VK → Prop := fun xs H Q => ∃ (p : Addr) (ns : List Int), xs = [.ref p] ∧ SqL K H p (ns.map V.int) ∧ Q (.int ns.sum) H
section
variable {X : Cx}
theorem val_int {ns : List Int} {its : List Value} {i : Nat} {v : Value} (r : Vals (ns.map V.int) its) (e : its.toArray[i]? = some v) : ∃ t, v = .int (ns.getD i 0) t := by
  have l := r.length
  rw [List.length_map] at l
  have e' : its[i]? = some v := by simpa using e
  have hi : i < ns.length := by rw [l]; exact (List.getElem?_eq_some_iff.mp e').1
  obtain ⟨u, hu, ru⟩ := r.get (i := i) (x := .int ns[i]) (by rw [List.getElem?_map, List.getElem?_eq_getElem hi]; rfl)
  rw [e'] at hu
  cases hu
  obtain ⟨t, rfl⟩ := ru
  refine ⟨t, ?_⟩
  rw [List.getD_eq_getElem?_getD, List.getElem?_eq_getElem hi]
  rfl
theorem preSum_sum (ns : List Int) : ∀ k, k ≤ ns.length → preSum (fun i => ns.getD i 0) k = (ns.take k).sum
  | 0, _ => by simp [preSum]
  | k + 1, h => by
    rw [preSum, preSum_sum ns k (by (first|lia|omega)), List.take_add_one, List.getElem?_eq_getElem (by (first|lia|omega)), List.sum_append, List.getD_eq_getElem?_getD, List.getElem?_eq_getElem (by (first|lia|omega))]
    simp
theorem call_sum (hc : X.calm = true) : CallR X (.builtin "sum") (rSum X.K) := by
  intro pins s σ H xs us Q I r h
  obtain ⟨p, ns, rfl, hl, q⟩ := h
  obtain ⟨u, rfl, ru⟩ := r.one
  cases ru
  obtain ⟨its, rv, pl, _⟩ := I.list hl
  have l := rv.length
  rw [List.length_map] at l
  obtain ⟨o, n, e, _⟩ := id pl
  have hlt := Heap.lt_size e
  have hne : p ≠ s.heap.objs.size := Nat.ne_of_lt hlt
  refine call_sum_walkG (wpAny_pyIter_list pl.isList ?_)
  refine ⟨s.heap.objs.size, _, _, _, _, _, fun i => ns.getD i 0, rfl, Walks.list (A := X.A.in1) (I.ok.hd hc) _ p hne its.toArray, ⟨⟨_, Heap.get?_push_size _ rfl, rfl, rfl⟩, ?_⟩, fun b hb => ?_, fun i v hv => val_int rv hv, fun h' tk t' hk => ⟨.int _, H, I.kept fun b u eb => ?_, ⟨t', rfl⟩, ?_⟩⟩
  · exact pl.isList.at fun o e => Heap.get?_push_of_some _ e
  · rw [Heap.size_push]
    rcases List.mem_cons.mp hb with z | z
    · rw [z]; exact Nat.lt_succ_self _
    · have z' : b = p := by simpa using z
      rw [z']; exact Nat.lt_succ_of_lt hlt
  · exact hk b u (fun z => Nat.ne_of_lt (Heap.lt_size eb) (by simpa using z)) (Heap.get?_push_of_some _ eb)
  · rw [List.size_toArray, ← l, preSum_sum _ _ (Nat.le_refl _), List.take_length]
    exact q
end
end L2
namespace L2
open PySem PySem.Spec PyProof.Rows
theorem fields_nocell {o : Obj} {vs : Array Value} (h : o.data = .fields vs) : ∀ v, o.data ≠ .cell v := fun v z => by rw [h] at z; cases z
end L2
namespace L2
open PySem PySem.Spec PyProof.Rows
inductive Tr where
  | int (i : Int)
  | bl (b : Bool)
  | str (x : Str)
  | non
  | lst (l : List Tr)
  | tup (l : List Tr)
inductive Shows (K : PySem.W.Frag) (H : Hp) : Nat → Tr → V → Prop where
  | int {n : Nat} (i : Int) : Shows K H n (.int i) (.int i)
  | bl {n : Nat} (b : Bool) : Shows K H n (.bl b) (.bl b)
  | str {n : Nat} (x : Str) : Shows K H n (.str x) (.str x)
  | non {n : Nat} : Shows K H n .non .non
  | lst {n : Nat} {p : Addr} {xs : List V} {ts : List Tr} (h : SqL K H p xs) (l : xs.length = ts.length) (e : ∀ (i : Nat) x t, xs[i]? = some x → ts[i]? = some t → Shows K H n t x) : Shows K H (n + 1) (.lst ts) (.ref p)
  | tup {n : Nat} {p : Addr} {xs : List V} {ts : List Tr} (h : SqT K H p xs) (l : xs.length = ts.length) (e : ∀ (i : Nat) x t, xs[i]? = some x → ts[i]? = some t → Shows K H n t x) : Shows K H (n + 1) (.tup ts) (.ref p)
section
variable {X : Cx} {pins : List (Addr × Obj)} {σ : St} {H : Hp} {s : Shared}
theorem items_eq {A : Around} {n : Nat} {xs ys : List V} {ts : List Tr} {us vs : List Value} (lx : xs.length = ts.length) (ly : ys.length = ts.length) (r1 : Vals xs us) (r2 : Vals ys vs)
    (ih : ∀ (i : Nat) x t, xs[i]? = some x → ts[i]? = some t → ∀ y, Shows X.K H n t y → ∀ (u v : Value) (A : Around), RelV x u → RelV y v → A.units + n < cLine → SeqAt.EqAt A s u v true)
    (ey : ∀ (i : Nat) y t, ys[i]? = some y → ts[i]? = some t → Shows X.K H n t y) (hu : A.units + (n + 1) < cLine) :
    ∀ j (h1 : j < us.toArray.size) (h2 : j < vs.toArray.size), SeqAt.EqAt A.in1 s us.toArray[j] vs.toArray[j] true := by
  intro j h1 h2
  have k1 : j < xs.length := by rw [r1.length]; simpa using h1
  have k2 : j < ys.length := by rw [r2.length]; simpa using h2
  have k3 : j < ts.length := by (first|lia|omega)
  obtain ⟨u, e1, ru⟩ := r1.get (List.getElem?_eq_getElem k1)
  obtain ⟨v, e2, rv⟩ := r2.get (List.getElem?_eq_getElem k2)
  have q1 : us.toArray[j] = u := by
    have := (List.getElem?_eq_some_iff.mp e1).2
    simpa using this
  have q2 : vs.toArray[j] = v := by
    have := (List.getElem?_eq_some_iff.mp e2).2
    simpa using this
  rw [q1, q2]
  exact ih j _ _ (List.getElem?_eq_getElem k1) (List.getElem?_eq_getElem k3) _ (ey j _ _ (List.getElem?_eq_getElem k2) (List.getElem?_eq_getElem k3)) u v A.in1 ru rv (by show A.units + 1 + n < cLine; (first|lia|omega))
theorem all_true (n : Nat) : (List.range n).all (fun _ => true) = true := by simp
theorem deep_eq (I : Inv X pins σ H s) {n : Nat} {t : Tr} {x : V} (hx : Shows X.K H n t x) : ∀ y, Shows X.K H n t y → ∀ (u v : Value) (A : Around), RelV x u → RelV y v → A.units + n < cLine → SeqAt.EqAt A s u v true := by
  induction hx with
  | int i =>
    intro y hy u v A ru rv hu
    cases hy
    obtain ⟨a, rfl⟩ := ru
    obtain ⟨b, rfl⟩ := rv
    have := SeqAt.EqAt.int_int (A := A) (s := s) i a i b
    rw [beq_self_eq_true] at this
    exact this
  | bl b =>
    intro y hy u v A ru rv hu
    cases hy
    cases ru
    cases rv
    exact SeqAt.EqAt.same _
  | str x =>
    intro y hy u v A ru rv hu
    cases hy
    obtain ⟨a, rfl⟩ := ru
    obtain ⟨b, rfl⟩ := rv
    have := SeqAt.EqAt.str_str (A := A) (s := s) x a x b
    rw [beq_self_eq_true] at this
    exact this
  | non =>
    intro y hy u v A ru rv hu
    cases hy
    cases ru
    cases rv
    exact SeqAt.EqAt.same _
  | @lst n p xs ts h l e ih =>
    intro y hy u v A ru rv hu
    cases hy with
    | @lst _ q ys _ h2 l2 e2 =>
      cases ru
      cases rv
      by_cases hpq : p = q
      · subst hpq
        exact SeqAt.EqAt.same _
      · obtain ⟨us, r1, p1, _⟩ := I.list h
        obtain ⟨vs, r2, p2, _⟩ := I.list h2
        have z := SeqAt.RcAt.lists (A := A) p1.isList p2.isList (by rw [List.size_toArray, List.size_toArray, ← r1.length, ← r2.length, l, l2]) (by (first|lia|omega)) (e := fun _ => true) (items_eq l l2 r1 r2 ih e2 hu)
        rw [all_true] at z
        exact SeqAt.EqAt.of_refs hpq z
  | @tup n p xs ts h l e ih =>
    intro y hy u v A ru rv hu
    cases hy with
    | @tup _ q ys _ h2 l2 e2 =>
      cases ru
      cases rv
      by_cases hpq : p = q
      · subst hpq
        exact SeqAt.EqAt.same _
      · obtain ⟨us, r1, p1, _⟩ := I.tuple h
        obtain ⟨vs, r2, p2, _⟩ := I.tuple h2
        have z := SeqAt.RcAt.tuples (A := A) p1 p2 (by (first|lia|omega)) (e := fun _ => true) (items_eq l l2 r1 r2 ih e2 hu)
        rw [all_true, List.size_toArray, List.size_toArray, ← r1.length, ← r2.length, l, l2, beq_self_eq_true, Bool.and_self] at z
        exact SeqAt.EqAt.of_refs hpq z
def rNeD (K : PySem.W.Frag) : R2 := fun x y H Q => ∃ n ts, n ≤ 60 ∧ (Shows K H (n + 1) (.lst ts) x ∧ Shows K H (n + 1) (.lst ts) y ∨ Shows K H (n + 1) (.tup ts) x ∧ Shows K H (n + 1) (.tup ts) y) ∧ Q (.bl false) H
theorem op_neD (hu : X.A.units + 64 < cLine) : OpR X (compareOp .NotEq) (rNeD X.K) := by
  intro pins s σ H x y v u Q I rx ry h
  obtain ⟨n, ts, hn, h, q⟩ := h
  have hu' : X.A.units + (n + 1) < cLine := by (first|lia|omega)
  rcases h with ⟨h1, h2⟩ | ⟨h1, h2⟩
  · cases h1 with
    | @lst _ p xs _ a1 a2 a3 =>
      cases h2 with
      | @lst _ p' ys _ b1 b2 b3 =>
        cases rx
        cases ry
        obtain ⟨us, r1, p1, _⟩ := I.list a1
        obtain ⟨vs, r2, p2, _⟩ := I.list b1
        have z := SeqAt.RcNeAt.lists (A := X.A) p1.isList p2.isList (by rw [List.size_toArray, List.size_toArray, ← r1.length, ← r2.length, a2, b2]) (by (first|lia|omega)) (e := fun _ => true) (items_eq a2 b2 r1 r2 (fun i x t e1 e2 => deep_eq I (a3 i x t e1 e2)) b3 hu')
        rw [all_true] at z
        exact z X.prog X.w X.xe _ ⟨.bl false, H, I, rfl, q⟩
  · cases h1 with
    | @tup _ p xs _ a1 a2 a3 =>
      cases h2 with
      | @tup _ p' ys _ b1 b2 b3 =>
        cases rx
        cases ry
        obtain ⟨us, r1, p1, _⟩ := I.tuple a1
        obtain ⟨vs, r2, p2, _⟩ := I.tuple b1
        have z := SeqAt.RcNeAt.tuples (A := X.A) p1 p2 (by (first|lia|omega)) (e := fun _ => true) (items_eq a2 b2 r1 r2 (fun i x t e1 e2 => deep_eq I (a3 i x t e1 e2)) b3 hu')
        rw [all_true, List.size_toArray, List.size_toArray, ← r1.length, ← r2.length, a2, b2, beq_self_eq_true, Bool.and_self] at z
        exact z X.prog X.w X.xe _ ⟨.bl false, H, I, rfl, q⟩
end
end L2
namespace L2
open PySem PySem.Spec PyProof.Rows
end L2
namespace L2
open PySem PySem.Spec PyProof.Rows
section
variable {X : Cx}
end
def CompIt (J : It) (g : TG) (tt : TT) (te : TE) (D : Addr) (Q : VK) (σ : St) (H : Hp) : Prop := ∃ W : Nat → Nat → St → Hp → Prop, (∃ m, W 0 m σ H) ∧ ∀ i m σc Hc, W i m σc Hc →
  (J.stop i Hc ∧ Q (.ref D) Hc) ∨ (J.go i Hc ∧ ∃ N : St → Hp → Prop, (∀ σ' H', N σ' H' → ∃ m', m' < m ∧ W (i + 1) m' σ' H') ∧ ∀ x H', J.yld i Hc x H' → g x σc H' fun σ2 H2 => tt σ2 H2 fun b H3 => if b = true then te σ2 H3 fun y H4 => rAppend (.ref D) [y] H4 fun _ H5 => N σ2 H5 else N σ2 H3)
theorem tComp_eq {wi : TI} {g : TG} {tt : TT} {te : TE} {cap : List (Option Nat)} {σ : St} {H : Hp} {Q : VK} : tComp wi g tt te cap σ H Q = wi σ H fun J H1 => ∀ D, H1 D = none → CompIt J g tt te D Q (capS cap σ) (upd H1 D (.lst [])) := rfl
theorem comp_rangeF {lo : Int} {n : Nat} {g : TG} {tt : TT} {te : TE} {σ : St} {H : Hp} {D : Addr} {Q : VK} (Pv : Nat → List V → St → Hp → Prop) (h0 : Pv 0 [] σ (upd H D (.lst [])))
    (hs : ∀ i ys σ H, i < n → H D = some (.lst ys) → Pv i ys σ H → g (.int (lo + i)) σ H fun σ2 H2 => tt σ2 H2 fun b H3 => if b = true then te σ2 H3 fun y H4 => rAppend (.ref D) [y] H4 fun _ H5 => ∃ ys, H5 D = some (.lst ys) ∧ Pv (i + 1) ys σ2 H5 else ∃ ys, H3 D = some (.lst ys) ∧ Pv (i + 1) ys σ2 H3)
    (hd : ∀ ys σ H, H D = some (.lst ys) → Pv n ys σ H → Q (.ref D) H) : CompIt (Itr lo n) g tt te D Q σ (upd H D (.lst [])) := comp_range Pv h0 hs hd
end L2
namespace My3
open PySem
section
variable {P : Program} {w : World} {A : Around} {E : Value → Shared → Prop} {s : Shared}
end
end My3
namespace L2
open PySem PySem.Spec PyProof.Rows My3
end L2
namespace L2
open PySem PySem.Spec PyProof.Rows
section
variable {X : Cx}
def rInsert : V → List V → Hp → VK → Prop := fun x vs H Q => ∃ l xs k y, x = .ref l ∧ vs = [.int k, y] ∧ H l = some (.lst xs) ∧ 0 ≤ k ∧ k ≤ (xs.length : Int) ∧ xs.length < 1000000 ∧ Q .non (upd H l (.lst (xs.take k.toNat ++ y :: xs.drop k.toNat)))
theorem vals_take {xs : List V} {us : List Value} (r : Vals xs us) : ∀ n : Nat, Vals (xs.take n) (us.take n) ∧ Vals (xs.drop n) (us.drop n) := by
  induction r with
  | nil => intro n; rw [List.take_nil, List.take_nil, List.drop_nil, List.drop_nil]; exact ⟨.nil, .nil⟩
  | cons h t ih =>
    intro n
    cases n with
    | zero => exact ⟨.nil, .cons h t⟩
    | succ n => exact ⟨.cons h (ih n).1, (ih n).2⟩
theorem mt_insert : MtM X "list.insert" rInsert := by
  intro pins s σ H x vs v us Q I rx rv h
  obtain ⟨l, xs, k, y, rfl, rfl, hH, k0, k1, hz, q⟩ := h
  cases rx
  obtain ⟨u, w, rfl, ru, rw'⟩ := vals2 rv
  obtain ⟨tk, rfl⟩ := ru
  obtain ⟨z, its, n, r, hl, e⟩ := I.lstM hH
  have lr := r.length
  have fit : ¬(!Builtin.List.listFitsIndex k) = true := by
    have : Builtin.List.listFitsIndex k = true := by
      unfold Builtin.List.listFitsIndex
      simp only [Bool.and_eq_true,decide_eq_true_eq]
      (first|lia|omega)
    rw [this]
    decide
  refine call_meets F.slot_list_insert ⟨_, e, rfl⟩ F.entry_list_insert (F.args_list_insert_3 _ _ _) (AutoSeq1.list_insert_list_int_val_1 l its.toArray n k tk w fit (by rw [List.size_toArray]; (first|lia|omega))) ⟨e, ?_⟩
  refine ⟨.non, _, I.lset (its' := its.take k.toNat ++ w :: its.drop k.toNat) hH e ?_ ((vals_take r _).1.append (.cons rw' (vals_take r _).2)) ?_, rfl, q⟩
  · have e1 : (if k < 0 then (k + (its.toArray.size : Int)).toNat else min k.toNat its.toArray.size) = k.toNat := by
      rw [if_neg (by (first|lia|omega)), List.size_toArray, ← lr]
      (first|lia|omega)
    simp only [e1]
    apply Array.toList_inj.mp
    simp
    exact List.take_of_length_le (by rw [List.length_drop]; exact Nat.le_refl _)
  · rw [List.length_append, List.length_cons, List.length_take, List.length_drop]
    have : (1000000 : Nat) ≤ sizeLine := by decide
    (first|lia|omega)
end
end L2
namespace L2
open PySem PySem.Spec PyProof.Rows
def tRev (K : PySem.W.Frag) (te : TE) (tk : TO) : TE := fun σ H Q => te σ H fun x H1 => tk σ H1 fun k H2 => k = some (-1) ∧ ∃ a xs, x = .ref a ∧ SqL K H2 a xs ∧ ∀ p, H2 p = none → Q (.ref p) (upd H2 p (.lst xs.reverse))
section
variable {X : Cx} {e : Expr} {te : TE} {st : Expr} {tk : TO} {p2 pos : Pos}
theorem pe_rev (he : PE X e te) (hk : PO X (some st) tk) : PE X (.Subscript e (.Slice none none (some st) p2) pos) (tRev X.K te tk) := by
  intro pins s σ H Q I h
  refine Subscript_ (thn (he pins s σ H _ I h) fun v s1 hQ' => ?_)
  obtain ⟨x, H1, I1, r1, q1⟩ := hQ'
  refine wpAny_Slice ?_
  rw [evalPart_none]
  refine wpAny_pure (wpAny_pure (thn (hk pins s1 σ H1 _ I1 q1) fun vk s3 hQ' => ?_))
  obtain ⟨k, H3, I3, pk, q3⟩ := hQ'
  obtain ⟨rfl, a, xs, rfl, hx, q⟩ := q3
  cases r1
  have I4 : Inv X pins σ H3 { s3 with heap := s3.heap.push { cls := .type "slice", data := .fields #[.none, .none, vk] } } := I3.kept (t' := s3.toks) fun b ob q => Heap.get?_push_of_some _ q
  obtain ⟨its, r, ht, hz⟩ := I4.list hx
  have hlen := r.length
  refine tail_any (ops := [.ref a, .ref s3.heap.objs.size]) ht.isList.typeIs slot_list_getitem.lookup ?_ (by with_unfolding_all rfl)
  refine wpAny_getItem_list_slice ht.isList (Heap.IsSliceOf.new ..) .none .none pk (by decide) ?_ (by rw [List.size_toArray] <;> (first|lia|omega))
  rw [PySem.W.krv_pick]
  refine ⟨.ref _, _, I4.laid (t' := s3.toks) (o := .lst xs.reverse) (fun b ob q => Heap.get?_push_of_some _ q) (Nat.le_refl _) ?_, rfl, q _ (I4.hok.fresh (Nat.le_refl _))⟩
  exact ⟨by rw [List.length_reverse]; exact hz, _, 0, r.reverse, Heap.get?_push_size _ rfl⟩
end
end L2
namespace L2
open PySem PySem.Spec PyProof.Rows
section
variable {X : Cx}
end
end L2
namespace L2
open PySem PySem.Spec PyProof.Rows
theorem bootEnum : bootBuiltins "enumerate" = some (.type "enumerate") := by decide +kernel
def Ite (K : PySem.W.Frag) (p : Addr) : It where
  go := fun i H => ∃ xs a, SqL K H p xs ∧ xs[i]? = some a
  yld := fun i H x H' => ∃ t a, x = .ref t ∧ H t = none ∧ H' = upd H t (.tup [.int (i : Int), a]) ∧ ∀ xs, SqL K H p xs → xs[i]? = some a
  stop := fun i H => ∃ xs, SqL K H p xs ∧ i = xs.length
def tnE (e it p : Addr) (i : Nat) (h : Heap) : Prop := (∃ old, IsEnum h e it i old) ∧ h.IsListIter it p i
theorem tnE_there {e it p : Addr} {i : Nat} {h : Heap} (st : tnE e it p i h) : ∀ b ∈ [e, it], ∃ o, h.get? b = some o ∧ ∀ v, o.data ≠ .cell v := fun b hb => by
  obtain ⟨⟨old, a1⟩, ⟨o2, a2, _, d2⟩⟩ := st
  simp only [List.mem_cons,List.not_mem_nil,or_false] at hb
  rcases hb with rfl | rfl
  · exact ⟨_, a1, fields_nocell rfl⟩
  · exact ⟨_, a2, fields_nocell d2⟩
theorem turn_enum {P : Program} {w : World} {K : PySem.W.Frag} {elts : List Expr} {k : Nat} {pos : Pos} {e it p : Addr} (d1 : e ≠ it) (d2 : p ≠ e) (d3 : p ≠ it) : Turn P w K (.Tuple elts k pos) (Ite K p) [e, it] e (tnE e it p) where
  mem := by simp
  obj := fun i h st => tnE_there st
  keep := fun i h h' st kk => by
    obtain ⟨⟨old, a1⟩, a2⟩ := st
    exact ⟨⟨old, kk e (by simp) _ a1⟩, a2.at fun o x => kk it (by simp) o x⟩
  item := by
    intro X hP hw hK hc i pins s σ H E I hf st hg
    subst hP hw hK
    obtain ⟨xs, a, hx, ea⟩ := hg
    obtain ⟨its, r1, pl1, z1⟩ := I.list hx
    obtain ⟨ua, eua, rua⟩ := r1.get ea
    have there := tnE_there st
    obtain ⟨s1, s2⟩ := st
    have W := WalksT.enumerate (prog := X.prog) (w := X.w) (A := X.A) (I.ok.hd hc) e it p d1 d2 d3 its.toArray
    have hi : i < its.toArray.size := by
      have h1 := (List.getElem?_eq_some_iff.mp eua).1
      rw [List.size_toArray]
      exact h1
    refine W.item i s _ _ hi ⟨s1, s2, pl1.isList⟩ fun T vals h' tk hp hT hTup mid kk => ⟨_, rfl, ?_⟩
    obtain ⟨t, u, e1, rfl⟩ := hp
    have e1' : u = ua := by
      have : its[i]? = some u := by simpa using e1
      rw [eua] at this; cases this; rfl
    subst e1'
    refine W.go elts k pos i T { s with heap := h', toks := tk } _ _ mid fun h2 st2 kk2 => ?_
    obtain ⟨t1, t2, _⟩ := st2
    have I1 : Inv X pins σ H { s with heap := h2, toks := tk } := I.turns (ch := [e, it]) (fun b o hb q => kk2 b o hb (kk b o hb q)) fun b hb => hf b hb
    have nT : H T = none := I.hok.fresh hT
    have I2 := I1.track (a := T) (o := .tup [.int (i : Int), a]) nT (Heap.get?_none_of_le (Nat.le_trans I.sz hT)) (Nat.ne_of_gt (Nat.lt_of_lt_of_le I.lt hT)) (fun x c q => by
      obtain ⟨v, z⟩ := I.cell x c q
      exact Nat.ne_of_lt (Nat.lt_of_lt_of_le z.lt hT)) (fun y hy => Nat.ne_of_lt (Nat.lt_of_lt_of_le (Heap.lt_size (I.pin y hy).1) hT)) (by
      refine ⟨by show 2 ≤ sizeLine; decide, [.int i t, u], .cons ⟨t, rfl⟩ (.cons rua .nil), ?_⟩
      obtain ⟨o, ho, hcl, hd⟩ := hTup
      exact ⟨o, kk2 T o (W.apart i T h' mid) ho, hcl, hd⟩)
    refine ⟨.ref T, _, I2, rfl, ⟨T, a, rfl, nT, rfl, fun xs' h' => ?_⟩, ⟨t1, t2⟩, fun b hb => ?_⟩
    · rw [I.list_inj h' hx]; exact ea
    · obtain ⟨o, q, _⟩ := there b hb
      rw [upd_ne (Nat.ne_of_lt (Nat.lt_of_lt_of_le (Heap.lt_size q) hT))]
      exact (hf b hb).1
  done := by
    intro X hP hw hK hc i pins s σ H E I hf st hg
    subst hP hw hK
    obtain ⟨xs, hx, rfl⟩ := hg
    obtain ⟨its, r1, pl1, z1⟩ := I.list hx
    obtain ⟨s1, s2⟩ := st
    have W := WalksT.enumerate (prog := X.prog) (w := X.w) (A := X.A) (I.ok.hd hc) e it p d1 d2 d3 its.toArray
    refine W.done s _ _ ?_ fun h' tk kk => ⟨rfl, I.turns (ch := [e, it]) (fun b o hb q => kk b o hb q) fun b hb => hf b hb⟩
    rw [List.size_toArray, ← r1.length]
    exact ⟨s1, s2, pl1.isList⟩
  self := fun A i s Q E st h => by
    obtain ⟨⟨old, a1⟩, _⟩ := st
    exact wpAny_pyIter_enum a1 h
def iEnum (K : PySem.W.Frag) (ta : TA) : TI := fun σ H R => ta σ H fun vs H1 => ∃ p, vs = [.ref p] ∧ (∃ xs, SqL K H1 p xs) ∧ R (Ite K p) H1
theorem pi_enum {X : Cx} {a : Expr} {elts : List Expr} {k : Nat} {tp p pos : Pos} {ta : TA} (hg : Gl X "enumerate") (hm : X.mg "enumerate" = none) (ha : PA X [a] ta) (hs : starEach [a] X.env = [(false, eval a X.env)] := by rfl) :
    PI X (.Tuple elts k tp) (.Call (.Name "enumerate" p) [a] [] pos) (iEnum X.K ta) := by
  intro pins s σ H R I h
  refine Call_ (ld_blt I hg hm bootEnum (PyProof.Rows.callWith_type1 (thn (ha pos pins s σ H _ I h) fun us s1 hQ' => ?_) (by rw [hs]; rfl) rfl))
  obtain ⟨vs, H1, I1, r1, q1⟩ := hQ'
  obtain ⟨p1, rfl, ⟨xs, hx⟩, q⟩ := q1
  obtain ⟨u, rfl, ru⟩ := r1.one
  cases ru
  obtain ⟨its, _, pl1, _⟩ := I1.list hx
  have a1 : p1 < s1.heap.objs.size := by obtain ⟨_, e, _⟩ := pl1.isList; exact Heap.lt_size e
  refine call_enumerate_list pl1.isList fun h' he hi hsz hk => ?_
  refine wpAny_pyIter_enum he ?_
  refine ⟨_, _, _, _, H1, rfl, I1.kept (t' := s1.toks) hk, turn_enum (Nat.succ_ne_self _) (Nat.ne_of_lt (Nat.lt_succ_of_lt a1)) (Nat.ne_of_lt a1), ⟨⟨_, he⟩, hi⟩, fun b hb => ?_, q⟩
  have hb' : s1.heap.objs.size ≤ b := by
    simp only [List.mem_cons,List.not_mem_nil,or_false] at hb
    rcases hb with h | h <;> rw [h] <;> first | exact Nat.le_refl _ | exact Nat.le_add_right _ _
  exact I1.fpOk hb' (I1.hok.fresh hb')
theorem for_enumF {K : PySem.W.Frag} {p : Addr} {xs : List V} {g : TG} {tb : TS} {D : Ends} {σ : St} {H : Hp} (Pv : Nat → St → Hp → Prop) (h0 : Pv 0 σ H) (hl : ∀ i σ H, i ≤ xs.length → Pv i σ H → SqL K H p xs)
    (hs : ∀ i x t σ H, xs[i]? = some x → Pv i σ H → H t = none → g (.ref t) σ (upd H t (.tup [.int (i : Int), x])) fun σ2 H2 => tb { D with nx := Pv (i + 1), ct := Pv (i + 1), bk := D.nx } σ2 H2) (hd : ∀ σ H, Pv xs.length σ H → D.nx σ H) : ForIt (Ite K p) g tb D σ H := by
  refine ⟨fun i m σ H => m = xs.length - i ∧ i ≤ xs.length ∧ Pv i σ H, ⟨_, rfl, Nat.zero_le _, h0⟩, ?_⟩
  rintro i m σ H ⟨rfl, hi, pv⟩
  have hx := hl i σ H hi pv
  by_cases hlt : i < xs.length
  · refine .inr ⟨⟨xs, xs[i], hx, by simp [hlt]⟩, Pv (i + 1), fun σ' H' p' => ⟨_, by (first|lia|omega), rfl, hlt, p'⟩, fun x H' yl => ?_⟩
    obtain ⟨t, a, rfl, ht, rfl, e1⟩ := yl
    exact hs i a t σ H (e1 xs hx) pv ht
  · have e : i = xs.length := by (first|lia|omega)
    subst e
    exact .inl ⟨⟨xs, hx, rfl⟩, hd σ H pv⟩
end L2
namespace L2
open PySem PySem.Spec PyProof.Rows
section
variable {κ : Type} [DecidableEq κ]
def valV (kvs : List (κ × V)) (k : κ) : Option V := (kvs.find? fun kv => decide (kv.1 = k)).map (·.2)
def putK (kvs : List (κ × V)) (k : κ) (v : V) : List (κ × V) :=
  if (kvs.any fun kv => decide (kv.1 = k)) = true then kvs.map (fun kv => if kv.1 = k then (kv.1, v) else kv) else kvs ++ [(k, v)]
theorem valV_pos {p : κ × V} {r : List (κ × V)} {k : κ} (e : p.1 = k) : valV (p :: r) k = some p.2 := by simp [valV, List.find?_cons, e]
theorem valV_neg {p : κ × V} {r : List (κ × V)} {k : κ} (e : ¬ p.1 = k) : valV (p :: r) k = valV r k := by simp [valV, List.find?_cons, e]
theorem valV_any (k : κ) : ∀ kvs : List (κ × V), (kvs.any fun kv => decide (kv.1 = k)) = (valV kvs k).isSome
  | [] => rfl
  | p :: r => by
    rw [List.any_cons]
    by_cases e : p.1 = k
    · simp only [valV_pos e,decide_eq_true e,Bool.true_or,Option.isSome_some]
    · rw [valV_neg e, decide_eq_false e, Bool.false_or]; exact valV_any k r
theorem valV_map (k j : κ) (y : V) : ∀ kvs : List (κ × V), valV (kvs.map fun kv => if kv.1 = k then (kv.1, y) else kv) j = (valV kvs j).map fun x => if j = k then y else x
  | [] => rfl
  | p :: r => by
    have ih := valV_map k j y r
    rw [List.map_cons]
    by_cases h : p.1 = k
    · rw [if_pos h]
      by_cases e : p.1 = j
      · rw [valV_pos (p := (p.1, y)) e, valV_pos e, Option.map_some, if_pos (e.symm.trans h)]
      · rw [valV_neg (p := (p.1, y)) e, valV_neg e, ih]
    · rw [if_neg h]
      by_cases e : p.1 = j
      · rw [valV_pos (p := p) e, valV_pos e, Option.map_some, if_neg (fun z => h (e.trans z))]
      · rw [valV_neg (p := p) e, valV_neg e, ih]
theorem valV_snoc (k j : κ) (y : V) : ∀ kvs : List (κ × V), valV kvs k = none → valV (kvs ++ [(k, y)]) j = if j = k then some y else valV kvs j
  | [], _ => by
    by_cases e : k = j
    · rw [if_pos e.symm]; exact valV_pos (p := (k, y)) e
    · rw [if_neg (fun z => e z.symm)]; exact valV_neg (p := (k, y)) e
  | p :: r, hn => by
    rw [List.cons_append]
    have hk : ¬ p.1 = k := fun z => by rw [valV_pos z] at hn; cases hn
    rw [valV_neg hk] at hn
    have ih := valV_snoc k j y r hn
    by_cases e : p.1 = j
    · rw [valV_pos e, valV_pos e, if_neg (fun z => hk (e.trans z))]
    · rw [valV_neg e, valV_neg e, ih]
theorem valV_put (kvs : List (κ × V)) (k j : κ) (y : V) : valV (putK kvs k y) j = if j = k then some y else valV kvs j := by
  unfold putK
  by_cases a : (kvs.any fun kv => decide (kv.1 = k)) = true
  · rw [if_pos a, valV_map]
    rw [valV_any] at a
    by_cases e : j = k
    · obtain ⟨x, hx⟩ := Option.isSome_iff_exists.mp a
      rw [if_pos e, e, hx, Option.map_some, if_pos rfl]
    · rw [if_neg e]
      cases valV kvs j with
      | none => rfl
      | some x => rw [Option.map_some, if_neg e]
  · rw [if_neg a]
    refine valV_snoc k j y kvs ?_
    rw [valV_any] at a
    cases q : valV kvs k with
    | none => rfl
    | some x => rw [q] at a; exact (a rfl).elim
theorem length_putK (kvs : List (κ × V)) (k : κ) (v : V) : (putK kvs k v).length ≤ kvs.length + 1 := by
  unfold putK
  split
  · rw [List.length_map]; (first|lia|omega)
  · rw [List.length_append, List.length_cons, List.length_nil]; (first|lia|omega)
theorem putK_new {kvs : List (κ × V)} {k : κ} (v : V) (h : valV kvs k = none) : putK kvs k v = kvs ++ [(k, v)] := by
  unfold putK
  rw [valV_any, h]
  exact if_neg (by decide)
theorem RelO.isSome_eq {o : Option V} {u : Option Value} (r : RelO o u) : o.isSome = u.isSome := by
  cases o with
  | none => cases u with
    | none => rfl
    | some _ => exact (show False from r).elim
  | some _ => cases u with
    | none => exact (show False from r).elim
    | some _ => rfl
theorem KV.val {kvs : List (κ × V)} {vs : List (κ × Value)} (r : KV kvs vs) (k : κ) : RelO (valV kvs k) (valueAt vs k) := by
  unfold KV at r
  induction r with
  | nil => exact True.intro
  | @cons p q ps qs h t ih =>
    obtain ⟨h1, h2⟩ := h
    by_cases e : p.1 = k
    · have e' : q.1 = k := h1.symm.trans e
      have b : valueAt (q :: qs) k = some q.2 := by simp [valueAt, List.find?_cons, e']
      rw [valV_pos e, b]; exact h2
    · have e' : ¬ q.1 = k := fun z => e (h1.trans z)
      have b : valueAt (q :: qs) k = valueAt qs k := by simp [valueAt, List.find?_cons, e']
      rw [valV_neg e, b]; exact ih
theorem KV.any {kvs : List (κ × V)} {vs : List (κ × Value)} (r : KV kvs vs) (k : κ) : (kvs.any fun kv => decide (kv.1 = k)) = vs.any fun kv => decide (kv.1 = k) := by
  unfold KV at r
  induction r with
  | nil => rfl
  | cons h t ih => rw [List.any_cons, List.any_cons, ih, h.1]
theorem KV.repl {kvs : List (κ × V)} {vs : List (κ × Value)} (r : KV kvs vs) (k : κ) {y : V} {u : Value} (ry : RelV y u) :
    KV (kvs.map fun kv => if kv.1 = k then (kv.1, y) else kv) (vs.map fun kv => if kv.1 = k then (kv.1, u) else kv) := by
  unfold KV at r ⊢
  induction r with
  | nil => exact .nil
  | @cons p q ps qs h t ih =>
    rw [List.map_cons, List.map_cons]
    refine .cons ?_ ih
    obtain ⟨h1, h2⟩ := h
    by_cases e : p.1 = k
    · rw [if_pos e, if_pos (h1.symm.trans e)]; exact ⟨h1, ry⟩
    · rw [if_neg e, if_neg (fun z => e (h1.trans z))]; exact ⟨h1, h2⟩
theorem KV.put {kvs : List (κ × V)} {vs : List (κ × Value)} (r : KV kvs vs) (k : κ) {y : V} {u : Value} (ry : RelV y u) : KV (putK kvs k y) (stored vs k u) := by
  unfold putK stored
  rw [r.any k]
  by_cases e : (vs.any fun kv => decide (kv.1 = k)) = true
  · rw [if_pos e, if_pos e]; exact r.repl k ry
  · rw [if_neg e, if_neg e]; exact Paired.snoc r ⟨rfl, ry⟩
theorem KV.length {kvs : List (κ × V)} {vs : List (κ × Value)} (r : KV kvs vs) : kvs.length = vs.length := Paired.length r
end
theorem kV_is {P : Program} {w : World} {k : Key} {u : Value} (r : RelV (kV k) u) : (mixKind P w).is k u = true := by
  cases k with
  | inl i => obtain ⟨t, e⟩ := (show ∃ t, u = Value.int i t from r); subst e; exact mixKind_int P w i t
  | inr x => obtain ⟨t, e⟩ := (show ∃ t, u = Value.str x t from r); subst e; exact mixKind_str P w x t
theorem items_are {P : Program} {w : World} : ∀ {ks : List Key} {us : List Value}, Vals (ks.map kV) us → ItemsAre (mixKind P w) ks us
  | [], _, r => by rw [List.map_nil] at r; cases r; exact .nil
  | k :: ks, _, r => by
    rw [List.map_cons] at r
    cases r with
    | cons h t => exact .cons (kV_is h) (items_are t)
abbrev KT (H : Hp) : List (List Key × V) → List (List Key × Addr × Value) → Prop := Paired fun p q => p.1 = q.1 ∧ H q.2.1 = some (.tup (p.1.map kV)) ∧ RelV p.2 q.2.2
theorem KT.val {H : Hp} {kvs : List (List Key × V)} {xs : List (List Key × Addr × Value)} (r : KT H kvs xs) (k : List Key) : RelO (valV kvs k) ((atKey xs k).map (·.2)) := by
  induction r with
  | nil => exact True.intro
  | @cons p q ps qs h t ih =>
    obtain ⟨h1, _, h2⟩ := h
    by_cases e : p.1 = k
    · have e' : q.1 = k := h1.symm.trans e
      have b : atKey (q :: qs) k = some q.2 := by simp [atKey, List.find?_cons, e']
      rw [valV_pos e, b]; exact h2
    · have e' : ¬ q.1 = k := fun z => e (h1.trans z)
      have b : atKey (q :: qs) k = atKey qs k := by simp [atKey, List.find?_cons, e']
      rw [valV_neg e, b]; exact ih
theorem KT.repl {H : Hp} {kvs : List (List Key × V)} {xs : List (List Key × Addr × Value)} (r : KT H kvs xs) (k : List Key) {y : V} {u : Value} (ry : RelV y u) :
    KT H (kvs.map fun kv => if kv.1 = k then (kv.1, y) else kv) (xs.map (putAt k u)) := by
  induction r with
  | nil => exact .nil
  | @cons p q ps qs h t ih =>
    rw [List.map_cons, List.map_cons]
    refine .cons ?_ ih
    obtain ⟨h1, h2, h3⟩ := h
    unfold putAt
    by_cases e : p.1 = k
    · rw [if_pos e, if_pos (h1.symm.trans e)]; exact ⟨h1, h2, ry⟩
    · rw [if_neg e, if_neg (fun z => e (h1.trans z))]; exact ⟨h1, h2, h3⟩
theorem KT.put {H : Hp} {kvs : List (List Key × V)} {xs : List (List Key × Addr × Value)} (r : KT H kvs xs) (k : List Key) {b : Addr} {y : V} {u : Value} (hb : H b = some (.tup (k.map kV))) (ry : RelV y u) :
    KT H (putK kvs k y) (storedH xs k b u) := by
  have e : (kvs.any fun kv => decide (kv.1 = k)) = (atKey xs k).isSome := by
    rw [valV_any, (r.val k).isSome_eq, Option.isSome_map]
  unfold putK storedH
  rw [e]
  by_cases q : (atKey xs k).isSome = true
  · rw [if_pos q, if_pos q]; exact r.repl k ry
  · rw [if_neg q, if_neg q]; exact Paired.snoc r ⟨rfl, hb, ry⟩
theorem KT.keeps {H H' : Hp} {kvs : List (List Key × V)} {xs : List (List Key × Addr × Value)} (r : KT H kvs xs) (ht : ∀ b ys, H b = some (.tup ys) → H' b = some (.tup ys)) : KT H' kvs xs :=
  Paired.mapP r fun _ _ z => ⟨z.1, ht _ _ z.2.1, z.2.2⟩
section
variable {P : Program} {w : World} {H : Hp} {h : Heap} {a : Addr}
theorem rd_of {u : HO} (ok : HOk P w H h) (e : Rd H a u) : ObjOk P w H h a u := e.ok ok
theorem dk_rd {kvs : List (Key × V)} (ok : HOk P w H h) (e : Rd H a (.dK kvs)) : kvs.length ≤ sizeLine ∧ (a == sysModules) = false ∧ ∃ vs, KV kvs vs ∧ h.DictOf (mixKind P w) a vs :=
  show ObjOk P w H h a (.dK kvs) from rd_of ok e
theorem dk_of {kvs : List (Key × V)} (ok : HOk P w H h) (e : H a = some (.dK kvs)) : kvs.length ≤ sizeLine ∧ (a == sysModules) = false ∧ ∃ vs, KV kvs vs ∧ h.DictOf (mixKind P w) a vs := dk_rd ok (.inl e)
theorem key_of {ks : List Key} (ok : HOk P w H h) (e : H a = some (.tup (ks.map kV))) : (tupleKind (mixKind P w)).is h ks a := by
  obtain ⟨_, its, r, o, h1, h2, n, h3⟩ := (show ObjOk P w H h a (.tup (ks.map kV)) from ok a _ e)
  exact ⟨o, its.toArray, n, h1, h2, h3, by simpa using items_are r⟩
theorem dt_rd {kvs : List (List Key × V)} (ok : HOk P w H h) (e : Rd H a (.dT kvs)) : kvs.length ≤ sizeLine ∧ (a == sysModules) = false ∧
    ∃ xs, KT H kvs xs ∧ h.DictOfH (tupleKind (mixKind P w)) a xs := by
  obtain ⟨z, y, xs, r, o, es, ep, h1, h2, h3, h4, h5⟩ := (show ObjOk P w H h a (.dT kvs) from rd_of ok e)
  refine ⟨z, y, xs, r, o, es, ep, h1, h2, h3, h4, fun x hx => ?_, h5⟩
  have all : ∀ {l : List (List Key × V)} {m : List (List Key × Addr × Value)}, KT H l m → ∀ x ∈ m, (tupleKind (mixKind P w)).is h x.1 x.2.1 := by
    intro l m q
    induction q with
    | nil => intro x hx; exact nomatch hx
    | @cons p q ps qs hq t ih =>
      intro x hx
      rcases List.mem_cons.mp hx with e | hx
      · subst e
        exact key_of ok (by rw [← hq.1]; exact hq.2.1)
      · exact ih x hx
  exact all r x hx
theorem dt_of {kvs : List (List Key × V)} (ok : HOk P w H h) (e : H a = some (.dT kvs)) : kvs.length ≤ sizeLine ∧ (a == sysModules) = false ∧
    ∃ xs, KT H kvs xs ∧ h.DictOfH (tupleKind (mixKind P w)) a xs := dt_rd ok (.inl e)
end
def DGet (H : Hp) (a : Addr) (y : V) (r : Option V) : Prop :=
  (∃ kvs k, Rd H a (.dK kvs) ∧ y = kV k ∧ r = valV kvs k) ∨ ∃ kvs k b, Rd H a (.dT kvs) ∧ y = .ref b ∧ H b = some (.tup (k.map kV)) ∧ r = valV kvs k
def DPut (H : Hp) (a : Addr) (y v : V) (H' : Hp) : Prop :=
  (∃ kvs k, H a = some (.dK kvs) ∧ y = kV k ∧ kvs.length < sizeLine ∧ H' = upd H a (.dK (putK kvs k v))) ∨
  ∃ kvs k b, H a = some (.dT kvs) ∧ y = .ref b ∧ H b = some (.tup (k.map kV)) ∧ kvs.length < sizeLine ∧ H' = upd H a (.dT (putK kvs k v))
theorem DGet.k {H : Hp} {a : Addr} {kvs : List (Key × V)} {k : Key} (e : H a = some (.dK kvs)) : DGet H a (kV k) (valV kvs k) := .inl ⟨kvs, k, .inl e, rfl, rfl⟩
theorem DPut.k {H : Hp} {a : Addr} {kvs : List (Key × V)} {k : Key} {v : V} (e : H a = some (.dK kvs)) (hl : kvs.length < sizeLine) : DPut H a (kV k) v (upd H a (.dK (putK kvs k v))) := .inl ⟨kvs, k, e, rfl, hl, rfl⟩
section
variable {X : Cx} {pins : List (Addr × Obj)} {σ : St} {H : Hp} {s : Shared} {a : Addr} {y v : V} {u r : Value} {o : Option V} {A : Around} {E : Value → Shared → Prop}
theorem Inv.big (I : Inv X pins σ H s) : sysModules < s.heap.objs.size := by
  have h : mainGlobals < s.heap.objs.size := (I.mod.glob.keeps I.bk).lt
  exact Nat.lt_trans (by decide) h
theorem d_in {Q : Value → Shared → Prop} (hu : A.units + 1 < cLine) (I : Inv X pins σ H s) (g : DGet H a y o) (ry : RelV y u) (h : ∀ s', Inv X pins σ H s' → Q (.bool o.isSome) s') :
    wpAny (model X.prog X.w) A (compareOp .In u (.ref a)) Q E s := by
  rcases g with ⟨kvs, k, e, ey, l⟩ | ⟨kvs, k, b, e, ey, eb, l⟩
  · subst ey
    obtain ⟨z, hd, vs, rel, dd⟩ := dk_rd I.hok e
    refine wpAny_in_of (kV_is ry) hd dd.mapOf ?_
    rw [← (rel.val k).isSome_eq, ← l]
    exact h _ (I.tok _)
  · subst ey
    cases (show u = Value.ref b from ry)
    obtain ⟨z, hd, xs, rel, dd⟩ := dt_rd I.hok e
    refine wpAny_in_heap (tupleKind_room_in1 hu) (key_of I.hok eb) hd dd ?_
    have q := (rel.val k).isSome_eq
    rw [Option.isSome_map] at q
    rw [← q, ← l]
    exact h _ (I.tok _)
theorem d_write {h' : Heap} {t' : Nat} {ob : HO} (I : Inv X pins σ H s) (mu : Mut (H a)) (hs : Heap.SameBut a s.heap h') (he : ∃ q, h'.get? a = some q) (new : ObjOk X.prog X.w (upd H a ob) h' a ob) :
    Inv X pins σ (upd H a ob) { s with heap := h', toks := t' } :=
  I.write (x := a) (e := a) mu (.inl rfl) (fun b q hb z => (hs.2 b hb).trans z) he new
theorem dk_new {P : Program} {w : World} {H' : Hp} {h' : Heap} {kvs : List (Key × V)} {vs : List (Key × Value)} (z : kvs.length ≤ sizeLine) (hd : (a == sysModules) = false) (rel : KV kvs vs) (dd : h'.DictOf (mixKind P w) a vs) :
    ObjOk P w H' h' a (.dK kvs) := ⟨z, hd, vs, rel, dd⟩
theorem d_setItem {H' : Hp} {Q : Unit → Shared → Prop} (hu : A.units + 1 < cLine) (I : Inv X pins σ H s) (g : DPut H a y v H') (ry : RelV y u) (rv : RelV v r) (h : ∀ s', Inv X pins σ H' s' → Q () s') :
    wpAny (model X.prog X.w) A (setItem (.ref a) u r) Q E s := by
  rcases g with ⟨kvs, k, e, ey, l, eH⟩ | ⟨kvs, k, b, e, ey, eb, l, eH⟩
  · subst ey eH
    obtain ⟨z, hd, vs, rel, dd⟩ := dk_of I.hok e
    have hz : vs.length ≤ sizeLine := by rw [← rel.length]; exact z
    have hl : (putK kvs k v).length ≤ sizeLine := by have := length_putK kvs k v; (first|lia|omega)
    refine wpAny_setItem_pairs (hsz := hz) (kV_is ry) dd fun h' dd' hs => h _ ?_
    have he : ∃ q, h'.get? a = some q := let ⟨q, _, _, hq, _⟩ := dd'; ⟨q, hq⟩
    exact d_write I (by rw [e]; exact True.intro) hs he (dk_new hl hd (rel.put k rv) dd')
  · subst ey eH
    cases (show u = Value.ref b from ry)
    obtain ⟨z, hd, xs, rel, dd⟩ := dt_of I.hok e
    have hz : xs.length ≤ sizeLine := by rw [← Paired.length rel]; exact z
    have hl : (putK kvs k v).length ≤ sizeLine := by have := length_putK kvs k v; (first|lia|omega)
    refine wpAny_setItem_heap (hsz := hz) (tupleKind_room_in1 hu) (key_of I.hok eb) dd fun h' dd' hs => h _ ?_
    obtain ⟨q, es, ep, hq, h2, h3, h4, _, h5⟩ := dd'
    refine d_write I (by rw [e]; exact True.intro) hs ⟨q, hq⟩ ⟨hl, hd, _, (rel.put k eb rv).keeps fun c ys ec => ?_, q, es, ep, hq, h2, h3, h4, h5⟩
    rw [upd_ne (ne_of ec e (fun z => nomatch z))]
    exact ec
end
section
variable {X : Cx} {pins : List (Addr × Obj)} {σ : St} {H : Hp} {s : Shared} {a : Addr} {kvs : List (Key × V)} {k : Key} {u : Value} {A : Around} {E : Value → Shared → Prop}
theorem d_len {Q : Value → Shared → Prop} (I : Inv X pins σ H s) (e : Rd H a (.dK kvs)) (h : ∀ t s', Inv X pins σ H s' → Q (.int kvs.length t) s') : wpAny (model X.prog X.w) A (call (.builtin "len") [.ref a]) Q E s := by
  obtain ⟨z, hd, vs, rel, dd⟩ := dk_rd I.hok e
  refine call_len_dict hd dd (by rw [← rel.length]; rw [sizeLine_eq] at z; (first|lia|omega)) ?_
  rw [← rel.length]
  exact h _ _ (I.tok _)
end
def tDIn (ty td : TE) : TE := fun σ H Q => ty σ H fun y H1 => td σ H1 fun x H2 => ∃ a o, x = .ref a ∧ DGet H2 a y o ∧ Q (.bl o.isSome) H2
def sDPut (td ty tv : TE) : TS := fun D σ H => tv σ H fun v H1 => td σ H1 fun x H2 => ty σ H2 fun y H3 => ∃ a H4, x = .ref a ∧ DPut H3 a y v H4 ∧ D.nx σ H4
section
variable {X : Cx} {o i e value : Expr} {pos pos' tpos : Pos} {td ty tv : TE}
theorem pc_din (hu : X.A.units + 1 < cLine) (hi : PE X i ty) (ho : PE X o td) : PC X .In i o (tDIn ty td) := by
  intro pins s σ H Q I h
  refine thn (hi pins s σ H _ I h) fun iv s1 ⟨y, H1, I1, ry, q1⟩ => thn (ho pins s1 σ H1 _ I1 q1) fun u s2 hQ' => ?_
  obtain ⟨x, H2, I2, rx, a, ov, ex, g, q2⟩ := hQ'
  subst ex
  obtain rfl : u = Value.ref a := rx
  exact d_in hu I2 g ry fun s3 I3 => ⟨.bl ov.isSome, H2, I3, rfl, q2⟩
theorem ps_dput (hu : X.A.units + 1 < cLine) (ho : PE X o td) (hi : PE X i ty) (hv : PE X value tv) (hs : swapsWith value (some (.Subscript o i pos')) pos.line X.env = pure false) :
    PS X (.Assign [.Subscript o i pos'] value pos) (sDPut td ty tv) := by
  intro pins s σ H D I h
  refine wpAny_Assign_Subscript (thn (hv pins s σ H _ I h) fun r s1 ⟨v, H1, I1, rv, q1⟩ => thn (ho pins s1 σ H1 _ I1 q1) fun u s2 ⟨x, H2, I2, rx, q2⟩ => thn (hi pins s2 σ H2 _ I2 q2) fun iv s3 hQ' => ?_) hs
  obtain ⟨y, H3, I3, ry, a, H4, ex, g, q3⟩ := hQ'
  subst ex
  obtain rfl : u = Value.ref a := rx
  exact d_setItem hu I3 g ry rv fun s4 I4 => ⟨σ, H4, I4, q3⟩
end
theorem dk_empty {P : Program} {w : World} {H : Hp} (h : Heap) (hb : sysModules < h.objs.size) : ObjOk P w H (h.push { cls := .type "dict", data := .dict #[] }) h.objs.size (.dK []) :=
  ⟨Nat.zero_le _, beq_eq_false_iff_ne.mpr (Ne.symm (Nat.ne_of_lt hb)), [], .nil, Heap.DictOf.new h⟩
section
variable {X : Cx} {pos : Pos}
end
def tPairs : List (TE × TE) → St → Hp → (List (V × V) → Hp → Prop) → Prop
  | [], _, H, Q => Q [] H
  | (tk, tv) :: r, σ, H, Q => tk σ H fun x H1 => tv σ H1 fun y H2 => tPairs r σ H2 fun ps H3 => Q ((x, y) :: ps) H3
abbrev VV : List (V × V) → List (Value × Value) → Prop := Paired fun p q => RelV p.1 q.1 ∧ RelV p.2 q.2
def PPs (X : Cx) (pos : Pos) (keys : List (Option Expr)) (values : List Expr) (trs : List (TE × TE)) : Prop :=
  ∀ (pins : List (Addr × Obj)) (s : Shared) (σ : St) (H : Hp) (Q : List (V × V) → Hp → Prop), Inv X pins σ H s → tPairs trs σ H Q →
    wpAny (model X.prog X.w) X.A (evalPairs (pairTrees keys values X.env pos)) (fun vs s' => ∃ ps H', Inv X pins σ H' s' ∧ VV ps vs ∧ Q ps H') X.xe s
theorem pps_nil {X : Cx} {pos : Pos} : PPs X pos [] [] [] := fun pins s σ H Q I h => pairTrees_nil_walk ⟨[], H, I, .nil, h⟩
theorem pps_cons {X : Cx} {pos : Pos} {k v : Expr} {ks : List (Option Expr)} {vs : List Expr} {tk tv : TE} {trs : List (TE × TE)} (hk : PE X k tk) (hv : PE X v tv) (hr : PPs X pos ks vs trs) :
    PPs X pos (some k :: ks) (v :: vs) ((tk, tv) :: trs) := fun pins s σ H Q I h =>
  pairTrees_cons_walk (thn (hk pins s σ H _ I h) fun u s1 ⟨x, H1, I1, rx, q1⟩ => thn (hv pins s1 σ H1 _ I1 q1) fun w2 s2 ⟨y, H2, I2, ry, q2⟩ =>
    thn (hr pins s2 σ H2 _ I2 q2) fun ws s3 ⟨ps, H3, I3, rel, q3⟩ => ⟨(x, y) :: ps, H3, I3, .cons ⟨rx, ry⟩ rel, q3⟩)
def mergeK (kvs more : List (Key × V)) : List (Key × V) := more.foldl (fun acc kv => putK acc kv.1 kv.2) kvs
theorem KV.merge : ∀ {more : List (Key × V)} {rs : List (Key × Value)} {kvs : List (Key × V)} {vs : List (Key × Value)}, KV more rs → KV kvs vs → KV (mergeK kvs more) (merged vs rs) := by
  intro more rs kvs vs r
  unfold KV at r
  induction r generalizing kvs vs with
  | nil => intro q; exact q
  | @cons p q ps qs h t ih =>
    intro r0
    have e : KV (putK kvs p.1 p.2) (stored vs q.1 q.2) := by
      have := r0.put p.1 h.2
      rw [← h.1]; exact this
    exact ih e
theorem length_mergeK : ∀ (more kvs : List (Key × V)), (mergeK kvs more).length ≤ kvs.length + more.length
  | [], kvs => by show kvs.length ≤ kvs.length + 0; (first|lia|omega)
  | p :: r, kvs => by
    have h1 := length_mergeK r (putK kvs p.1 p.2)
    have h2 := length_putK kvs p.1 p.2
    show (mergeK (putK kvs p.1 p.2) r).length ≤ _
    rw [List.length_cons]; (first|lia|omega)
theorem carries_of {P : Program} {w : World} : ∀ {kvs : List (Key × V)} {ws : List (Value × Value)}, VV (kvs.map fun kv => (kV kv.1, kv.2)) ws → ∃ rs, Carries (mixKind P w) ws rs ∧ KV kvs rs
  | [], _, r => by rw [List.map_nil] at r; cases r; exact ⟨[], True.intro, .nil⟩
  | p :: kvs, _, r => by
    rw [List.map_cons] at r
    cases r with
    | @cons a b as bs h t =>
      obtain ⟨rs, c, q⟩ := carries_of (P := P) (w := w) t
      obtain ⟨b1, b2⟩ := b
      exact ⟨(p.1, b2) :: rs, ⟨kV_is h.1, rfl, c⟩, .cons ⟨rfl, h.2⟩ q⟩
def tDisp (trs : List (TE × TE)) : TE := fun σ H Q => ∀ p, H p = none → tPairs trs σ (upd H p (.dK [])) fun ps H2 => H2 p = some (.dK []) ∧ ∃ kvs : List (Key × V), ps = kvs.map (fun kv => (kV kv.1, kv.2)) ∧ kvs.length ≤ 15 ∧ Q (.ref p) (upd H2 p (.dK (mergeK [] kvs)))
theorem pe_disp {X : Cx} {pos : Pos} {keys : List (Option Expr)} {values : List Expr} {trs : List (TE × TE)} (h : PPs X pos keys values trs) (hall : keys.all (·.isSome) = true) (hl : keys.length = values.length) (h0 : keys ≠ [])
    (h15 : keys.length ≤ 15) : PE X (.Dict keys values pos) (tDisp trs) := by
  intro pins s σ H Q I q
  have hn := I.hok.fresh (Nat.le_refl s.heap.objs.size)
  have I1 := I.laid (a := s.heap.objs.size) (o := .dK []) (h' := s.heap.push { cls := .type "dict", data := .dict #[] }) (t' := s.toks) (fun _ _ q => Heap.get?_push_of_some _ q) (Nat.le_refl _) (dk_empty s.heap I.big)
  refine wpAny_Dict_walk (knd := mixKind X.prog X.w) hall hl h0 h15 (thn (h pins _ σ _ _ I1 (q _ hn)) fun ws s2 hQ' => ?_)
  obtain ⟨ps, H2, I2, rel, e, kvs, ep, lk, q2⟩ := hQ'
  subst ep
  obtain ⟨rs, c, rk⟩ := carries_of (P := X.prog) (w := X.w) rel
  obtain ⟨z, hd, vs0, r0, dd⟩ := dk_of I2.hok e
  cases r0
  refine ⟨rs, c, dd, fun h' dd' hs => ⟨.ref s.heap.objs.size, _, ?_, rfl, q2⟩⟩
  have hz : (mergeK [] kvs).length ≤ sizeLine := by
    have h1 := length_mergeK kvs []
    rw [List.length_nil] at h1
    rw [sizeLine_eq]; (first|lia|omega)
  have he : ∃ q, h'.get? s.heap.objs.size = some q := let ⟨q, _, _, hq, _⟩ := dd'; ⟨q, hq⟩
  exact d_write I2 (by rw [e]; exact True.intro) hs he (dk_new hz hd (rk.merge .nil) dd')
section
variable {X : Cx} {pins : List (Addr × Obj)} {σ : St} {H : Hp} {s : Shared} {a : Addr} {y d : V} {u r : Value} {o : Option V} {A : Around} {E : Value → Shared → Prop}
end
section
variable {X : Cx} {o e f : Expr} {apos cpos : Pos} {td ty tx : TE}
end
section
variable {X : Cx} {pins : List (Addr × Obj)} {σ : St} {H : Hp} {s : Shared} {a : Addr} {kvs : List (Key × V)} {A : Around} {E : Value → Shared → Prop}
end
section
variable {X : Cx} {pins : List (Addr × Obj)} {σ : St} {H : Hp} {s : Shared} {a : Addr} {y : V} {u : Value} {A : Around} {E : Value → Shared → Prop}
end
end L2
namespace L2
open PySem PySem.Spec PyProof.Rows
section
variable {X : Cx}
theorem call_lenD : CallR X (.builtin "len") (fun xs H Q => ∃ a kvs, xs = [V.ref a] ∧ H a = some (.dK kvs) ∧ Q (.int kvs.length) H) := by
  intro pins s σ H xs us Q I r h
  obtain ⟨a, kvs, rfl, ha, q⟩ := h
  obtain ⟨u, rfl, ru⟩ := vals1 r
  cases ru
  exact d_len I (.inl ha) fun t s' I' => ⟨.int kvs.length, H, I', ⟨t, rfl⟩, q⟩
end
end L2
namespace L2
open PySem PySem.Spec PyProof.Rows
def rLenD : List V → Hp → VK → Prop := fun xs H Q => ∃ a kvs, xs = [V.ref a] ∧ H a = some (.dK kvs) ∧ Q (.int kvs.length) H
def tRng2 (ta : TA) : TE := fun σ H Q => ta σ H fun vs H1 => ∃ i j : Int, vs = [.int i, .int j] ∧ (-(2 ^ 62) ≤ i ∧ i < 2 ^ 62 ∧ -(2 ^ 62) ≤ j ∧ j < 2 ^ 62) ∧ ∀ p, H1 p = none → Q (.ref p) (upd H1 p (.rng i j))
def rListRng : List V → Hp → VK → Prop := fun xs H Q => ∃ (p : Addr) (i j : Int), xs = [.ref p] ∧ H p = some (.rng i j) ∧ (-(2 ^ 62) ≤ i ∧ i < 2 ^ 62 ∧ -(2 ^ 62) ≤ j ∧ j < 2 ^ 62) ∧ j - i ≤ 1000 ∧ ∀ l, H l = none → Q (.ref l) (upd H l (.lst ((List.range (j - i).toNat).map fun k : Nat => V.int (i + (k : Int)))))
section
variable {X : Cx}
theorem rng_laid {pins : List (Addr × Obj)} {σ : St} {H : Hp} {s : Shared} {lo hi : Int} {t u v : Tok} {tk : Nat} {Q : VK} (I : Inv X pins σ H s) (q : ∀ p, H p = none → Q (.ref p) (upd H p (.rng lo hi))) :
    EP X pins σ Q (.ref s.heap.objs.size) { s with heap := s.heap.push { cls := .type "range", data := .fields #[.int lo t, .int hi u, .int 1 v] }, toks := tk } :=
  ⟨.ref s.heap.objs.size, _, I.laid (a := s.heap.objs.size) (o := .rng lo hi) (t' := tk) (fun _ _ q => Heap.get?_push_of_some _ q) (Nat.le_refl _) (show ObjOk X.prog X.w _ _ _ (.rng lo hi) from ⟨t, u, v, Heap.get?_push_size _ rfl⟩), rfl, q _ (I.hok.fresh (Nat.le_refl _))⟩
theorem pe_rng2 {a b : Expr} {ta : TA} {p pos : Pos} (hg : Gl X "range") (hm : X.mg "range" = none) (ha : PA X [a, b] ta) (hs : starEach [a, b] X.env = [(false, eval a X.env), (false, eval b X.env)] := by rfl) (hs2 : starEach [b] X.env = [(false, eval b X.env)] := by rfl) :
    PE X (.Call (.Name "range" p) [a, b] [] pos) (tRng2 ta) := by
  intro pins s σ H Q I h
  refine Call_ (ld_blt I hg hm boot_range (PyProof.Rows.callWith_type1 (thn (ha pos pins s σ H _ I h) fun us s1 hQ' => ?_) (by rw [hs, hs2]) (by rw [hs2]; rfl)))
  obtain ⟨vs, H1, I1, r1, q1⟩ := hQ'
  obtain ⟨i, j, e, ⟨q1, q2, q3, q4⟩, q⟩ := q1
  subst e
  cases r1 with
  | cons r rr =>
    cases rr with
    | cons r' rr =>
      cases rr
      obtain ⟨t, rfl⟩ := r
      obtain ⟨t', rfl⟩ := r'
      exact call_range_2 (rng_laid I1 q)
theorem vals_of : ∀ {xs : List V} {us : List Value}, xs.length = us.length → (∀ (j : Nat) x u, xs[j]? = some x → us[j]? = some u → RelV x u) → Vals xs us
  | [], [], _, _ => .nil
  | [], _ :: _, h, _ => by simp at h
  | _ :: _, [], h, _ => by simp at h
  | x :: xs, u :: us, h, r => .cons (r 0 x u rfl rfl) (vals_of (by simpa using h) fun j y v e1 e2 => r (j + 1) y v e1 e2)
theorem items_ints {lo : Int} {acc : Array Value} {n : Nat} (h : ItemsOf (fun i v => ∃ t, v = .int (lo + i * 1) t) acc n) : Vals ((List.range n).map fun k : Nat => V.int (lo + (k : Int))) acc.toList := by
  refine vals_of (by rw [List.length_map, List.length_range, Array.length_toList, h.1]) fun j x u e1 e2 => ?_
  rw [List.getElem?_map, Option.map_eq_some_iff] at e1
  obtain ⟨k, hk, rfl⟩ := e1
  obtain ⟨l1, l2⟩ := List.getElem?_eq_some_iff.mp hk
  rw [List.getElem_range] at l2
  subst l2
  obtain ⟨t, rfl⟩ := h.2 j u (by rw [← Array.getElem?_toList]; exact e2)
  exact ⟨t, by rw [Int.mul_one]⟩
theorem call_list_rng (hc : X.calm = true) : CallR X (.type "list") rListRng := by
  intro pins s σ H xs us Q I r h
  obtain ⟨p, i, j, rfl, hp, ⟨h1, h2, h3, h4⟩, hl, q⟩ := h
  obtain ⟨u, rfl, rx⟩ := vals1 r
  cases rx
  obtain ⟨t, u, v, e⟩ := (show ObjOk X.prog X.w H s.heap p (.rng i j) from I.hok p _ hp)
  refine call_list_range (n := (j - i).toNat) (I.ok.hd hc) e (small_one h1 h2 h3 h4) (by rw [rangeSize_one]; split <;> (first|lia|omega)) (by (first|lia|omega)) fun h' tk acc c' kp e' it => ?_
  exact ⟨.ref s.heap.objs.size, _, I.laid (t' := tk) kp (Nat.le_refl _) (show ObjOk X.prog X.w _ h' _ (.lst _) from ⟨by simp [sizeLine_eq]; (first|lia|omega), acc.toList, c', items_ints it, e'⟩), rfl, q _ (I.hok.fresh (Nat.le_refl _))⟩
end
end L2
namespace L2
open PySem PySem.Spec PyProof.Rows
section
variable {X : Cx}
end
end L2
namespace L2
open PySem PySem.Spec PyProof.Rows
end L2
namespace L2
open PySem PySem.Spec PyProof.Rows
section
variable {X : Cx} {o e f : Expr} {apos cpos : Pos} {td ty tx : TE}
end
end L2
namespace L2
open PySem PySem.Spec PyProof.Rows
section
variable {X : Cx}
end
end L2
namespace L2
open PySem PySem.Spec PyProof.Rows
section
variable {X : Cx}
end
end L2
namespace L2
open PySem PySem.Spec PyProof.Rows
section
variable {X : Cx} {pins : List (Addr × Obj)} {σ : St} {H : Hp} {s : Shared} {a : Addr} {o : Obj} {kvs : List (Key × V)}
end
end L2
namespace L2
open PySem PySem.Spec PyProof.Rows
section
variable {X : Cx} {pins : List (Addr × Obj)} {σ : St} {H : Hp} {s : Shared}
end
end L2
namespace L2
open PySem
end L2
namespace L2.Srt
open PySem PyProof.Rows PySem.W
section
variable {cmp : Nat → Nat → (Bool → Shared → Prop) → Shared → Prop} {R : Nat → Int} {N : Nat} {s : Shared} {p : Array Nat}
end
section
variable {prog : Program} {w : World} {A : Around} {E : Value → Shared → Prop} {s : Shared}
end
end L2.Srt
namespace L2
open PySem PySem.Spec PyProof.Rows
section
variable {X : Cx} {e ve : Expr} {t : TA} {pos p kp : Pos}
end
end L2
namespace L2
open PySem PySem.Spec PyProof.Rows
section
variable {X : Cx}
end
end L2
namespace L2
open PySem
theorem tVar_c0 {v : V} {σ : List (Option V)} {H : Hp} {Q : VK} : tVar 0 (some v :: σ) H Q = Q v H := by simp [tVar]
theorem tVar_c1 {x0 : Option V} {v : V} {σ : List (Option V)} {H : Hp} {Q : VK} : tVar 1 (x0 :: some v :: σ) H Q = Q v H := by simp [tVar]
theorem tVar_c2 {x0 x1 : Option V} {v : V} {σ : List (Option V)} {H : Hp} {Q : VK} : tVar 2 (x0 :: x1 :: some v :: σ) H Q = Q v H := by simp [tVar]
theorem tVar_c3 {x0 x1 x2 : Option V} {v : V} {σ : List (Option V)} {H : Hp} {Q : VK} : tVar 3 (x0 :: x1 :: x2 :: some v :: σ) H Q = Q v H := by simp [tVar]
theorem tVar_c4 {x0 x1 x2 x3 : Option V} {v : V} {σ : List (Option V)} {H : Hp} {Q : VK} : tVar 4 (x0 :: x1 :: x2 :: x3 :: some v :: σ) H Q = Q v H := by simp [tVar]
theorem tVar_c5 {x0 x1 x2 x3 x4 : Option V} {v : V} {σ : List (Option V)} {H : Hp} {Q : VK} : tVar 5 (x0 :: x1 :: x2 :: x3 :: x4 :: some v :: σ) H Q = Q v H := by simp [tVar]
theorem tVar_c6 {x0 x1 x2 x3 x4 x5 : Option V} {v : V} {σ : List (Option V)} {H : Hp} {Q : VK} : tVar 6 (x0 :: x1 :: x2 :: x3 :: x4 :: x5 :: some v :: σ) H Q = Q v H := by simp [tVar]
theorem tVar_c7 {x0 x1 x2 x3 x4 x5 x6 : Option V} {v : V} {σ : List (Option V)} {H : Hp} {Q : VK} : tVar 7 (x0 :: x1 :: x2 :: x3 :: x4 :: x5 :: x6 :: some v :: σ) H Q = Q v H := by simp [tVar]
theorem tVar_c8 {x0 x1 x2 x3 x4 x5 x6 x7 : Option V} {v : V} {σ : List (Option V)} {H : Hp} {Q : VK} : tVar 8 (x0 :: x1 :: x2 :: x3 :: x4 :: x5 :: x6 :: x7 :: some v :: σ) H Q = Q v H := by simp [tVar]
theorem tVar_c9 {x0 x1 x2 x3 x4 x5 x6 x7 x8 : Option V} {v : V} {σ : List (Option V)} {H : Hp} {Q : VK} : tVar 9 (x0 :: x1 :: x2 :: x3 :: x4 :: x5 :: x6 :: x7 :: x8 :: some v :: σ) H Q = Q v H := by simp [tVar]
theorem tVar_c10 {x0 x1 x2 x3 x4 x5 x6 x7 x8 x9 : Option V} {v : V} {σ : List (Option V)} {H : Hp} {Q : VK} : tVar 10 (x0 :: x1 :: x2 :: x3 :: x4 :: x5 :: x6 :: x7 :: x8 :: x9 :: some v :: σ) H Q = Q v H := by simp [tVar]
theorem tVar_c11 {x0 x1 x2 x3 x4 x5 x6 x7 x8 x9 x10 : Option V} {v : V} {σ : List (Option V)} {H : Hp} {Q : VK} : tVar 11 (x0 :: x1 :: x2 :: x3 :: x4 :: x5 :: x6 :: x7 :: x8 :: x9 :: x10 :: some v :: σ) H Q = Q v H := by simp [tVar]
theorem tVar_c12 {x0 x1 x2 x3 x4 x5 x6 x7 x8 x9 x10 x11 : Option V} {v : V} {σ : List (Option V)} {H : Hp} {Q : VK} : tVar 12 (x0 :: x1 :: x2 :: x3 :: x4 :: x5 :: x6 :: x7 :: x8 :: x9 :: x10 :: x11 :: some v :: σ) H Q = Q v H := by simp [tVar]
theorem tVar_c13 {x0 x1 x2 x3 x4 x5 x6 x7 x8 x9 x10 x11 x12 : Option V} {v : V} {σ : List (Option V)} {H : Hp} {Q : VK} : tVar 13 (x0 :: x1 :: x2 :: x3 :: x4 :: x5 :: x6 :: x7 :: x8 :: x9 :: x10 :: x11 :: x12 :: some v :: σ) H Q = Q v H := by simp [tVar]
theorem tVar_c14 {x0 x1 x2 x3 x4 x5 x6 x7 x8 x9 x10 x11 x12 x13 : Option V} {v : V} {σ : List (Option V)} {H : Hp} {Q : VK} : tVar 14 (x0 :: x1 :: x2 :: x3 :: x4 :: x5 :: x6 :: x7 :: x8 :: x9 :: x10 :: x11 :: x12 :: x13 :: some v :: σ) H Q = Q v H := by simp [tVar]
theorem tVar_c15 {x0 x1 x2 x3 x4 x5 x6 x7 x8 x9 x10 x11 x12 x13 x14 : Option V} {v : V} {σ : List (Option V)} {H : Hp} {Q : VK} : tVar 15 (x0 :: x1 :: x2 :: x3 :: x4 :: x5 :: x6 :: x7 :: x8 :: x9 :: x10 :: x11 :: x12 :: x13 :: x14 :: some v :: σ) H Q = Q v H := by simp [tVar]
theorem gName_c0 {x0 : Option V} {v : V} {σ : List (Option V)} {H : Hp} {Q : St → Hp → Prop} : gName 0 v (x0 :: σ) H Q = Q (some v :: σ) H := rfl
theorem gName_c1 {x0 x1 : Option V} {v : V} {σ : List (Option V)} {H : Hp} {Q : St → Hp → Prop} : gName 1 v (x0 :: x1 :: σ) H Q = Q (x0 :: some v :: σ) H := rfl
theorem gName_c2 {x0 x1 x2 : Option V} {v : V} {σ : List (Option V)} {H : Hp} {Q : St → Hp → Prop} : gName 2 v (x0 :: x1 :: x2 :: σ) H Q = Q (x0 :: x1 :: some v :: σ) H := rfl
theorem gName_c3 {x0 x1 x2 x3 : Option V} {v : V} {σ : List (Option V)} {H : Hp} {Q : St → Hp → Prop} : gName 3 v (x0 :: x1 :: x2 :: x3 :: σ) H Q = Q (x0 :: x1 :: x2 :: some v :: σ) H := rfl
theorem gName_c4 {x0 x1 x2 x3 x4 : Option V} {v : V} {σ : List (Option V)} {H : Hp} {Q : St → Hp → Prop} : gName 4 v (x0 :: x1 :: x2 :: x3 :: x4 :: σ) H Q = Q (x0 :: x1 :: x2 :: x3 :: some v :: σ) H := rfl
theorem gName_c5 {x0 x1 x2 x3 x4 x5 : Option V} {v : V} {σ : List (Option V)} {H : Hp} {Q : St → Hp → Prop} : gName 5 v (x0 :: x1 :: x2 :: x3 :: x4 :: x5 :: σ) H Q = Q (x0 :: x1 :: x2 :: x3 :: x4 :: some v :: σ) H := rfl
theorem gName_c6 {x0 x1 x2 x3 x4 x5 x6 : Option V} {v : V} {σ : List (Option V)} {H : Hp} {Q : St → Hp → Prop} : gName 6 v (x0 :: x1 :: x2 :: x3 :: x4 :: x5 :: x6 :: σ) H Q = Q (x0 :: x1 :: x2 :: x3 :: x4 :: x5 :: some v :: σ) H := rfl
theorem gName_c7 {x0 x1 x2 x3 x4 x5 x6 x7 : Option V} {v : V} {σ : List (Option V)} {H : Hp} {Q : St → Hp → Prop} : gName 7 v (x0 :: x1 :: x2 :: x3 :: x4 :: x5 :: x6 :: x7 :: σ) H Q = Q (x0 :: x1 :: x2 :: x3 :: x4 :: x5 :: x6 :: some v :: σ) H := rfl
theorem gName_c8 {x0 x1 x2 x3 x4 x5 x6 x7 x8 : Option V} {v : V} {σ : List (Option V)} {H : Hp} {Q : St → Hp → Prop} : gName 8 v (x0 :: x1 :: x2 :: x3 :: x4 :: x5 :: x6 :: x7 :: x8 :: σ) H Q = Q (x0 :: x1 :: x2 :: x3 :: x4 :: x5 :: x6 :: x7 :: some v :: σ) H := rfl
theorem gName_c9 {x0 x1 x2 x3 x4 x5 x6 x7 x8 x9 : Option V} {v : V} {σ : List (Option V)} {H : Hp} {Q : St → Hp → Prop} : gName 9 v (x0 :: x1 :: x2 :: x3 :: x4 :: x5 :: x6 :: x7 :: x8 :: x9 :: σ) H Q = Q (x0 :: x1 :: x2 :: x3 :: x4 :: x5 :: x6 :: x7 :: x8 :: some v :: σ) H := rfl
theorem gName_c10 {x0 x1 x2 x3 x4 x5 x6 x7 x8 x9 x10 : Option V} {v : V} {σ : List (Option V)} {H : Hp} {Q : St → Hp → Prop} : gName 10 v (x0 :: x1 :: x2 :: x3 :: x4 :: x5 :: x6 :: x7 :: x8 :: x9 :: x10 :: σ) H Q = Q (x0 :: x1 :: x2 :: x3 :: x4 :: x5 :: x6 :: x7 :: x8 :: x9 :: some v :: σ) H := rfl
theorem gName_c11 {x0 x1 x2 x3 x4 x5 x6 x7 x8 x9 x10 x11 : Option V} {v : V} {σ : List (Option V)} {H : Hp} {Q : St → Hp → Prop} : gName 11 v (x0 :: x1 :: x2 :: x3 :: x4 :: x5 :: x6 :: x7 :: x8 :: x9 :: x10 :: x11 :: σ) H Q = Q (x0 :: x1 :: x2 :: x3 :: x4 :: x5 :: x6 :: x7 :: x8 :: x9 :: x10 :: some v :: σ) H := rfl
theorem gName_c12 {x0 x1 x2 x3 x4 x5 x6 x7 x8 x9 x10 x11 x12 : Option V} {v : V} {σ : List (Option V)} {H : Hp} {Q : St → Hp → Prop} : gName 12 v (x0 :: x1 :: x2 :: x3 :: x4 :: x5 :: x6 :: x7 :: x8 :: x9 :: x10 :: x11 :: x12 :: σ) H Q = Q (x0 :: x1 :: x2 :: x3 :: x4 :: x5 :: x6 :: x7 :: x8 :: x9 :: x10 :: x11 :: some v :: σ) H := rfl
theorem gName_c13 {x0 x1 x2 x3 x4 x5 x6 x7 x8 x9 x10 x11 x12 x13 : Option V} {v : V} {σ : List (Option V)} {H : Hp} {Q : St → Hp → Prop} : gName 13 v (x0 :: x1 :: x2 :: x3 :: x4 :: x5 :: x6 :: x7 :: x8 :: x9 :: x10 :: x11 :: x12 :: x13 :: σ) H Q = Q (x0 :: x1 :: x2 :: x3 :: x4 :: x5 :: x6 :: x7 :: x8 :: x9 :: x10 :: x11 :: x12 :: some v :: σ) H := rfl
theorem rI_c {C : Int → Int → Prop} {g : Int → Int → V} {a b : Int} {H : Hp} {Q : VK} : rI C g (.int a) (.int b) H Q = (C a b ∧ Q (g a b) H) := by simp [rI]
theorem rI0_c {g : Int → Int → V} {a b : Int} {H : Hp} {Q : VK} : rI0 g (.int a) (.int b) H Q = Q (g a b) H := by simp [rI0]
theorem rIxL_c {K : PySem.W.Frag} {p : Addr} {i : Int} {H : Hp} {Q : VK} : rIxL K (.ref p) (.int i) H Q = ∃ xs, SqL K H p xs ∧ ∃ v, atI xs i = some v ∧ Q v H := by simp [rIxL]
theorem rIxT_c {K : PySem.W.Frag} {p : Addr} {i : Int} {H : Hp} {Q : VK} : rIxT K (.ref p) (.int i) H Q = ∃ xs, SqT K H p xs ∧ ∃ v, atI xs i = some v ∧ Q v H := by simp [rIxT]
theorem ex_bl {c : Bool} {Q : Bool → Prop} : (∃ k, V.bl c = V.bl k ∧ Q k) = Q c := by simp
theorem ex_int {c : Int} {Q : Int → Prop} : (∃ k, V.int c = V.int k ∧ Q k) = Q c := by simp
theorem ex_ref {c : Addr} {Q : Addr → Prop} : (∃ k, V.ref c = V.ref k ∧ Q k) = Q c := by simp
theorem ex_l1i {c : Int} {Q : Int → Prop} : (∃ k, [V.int c] = [V.int k] ∧ Q k) = Q c := by simp
theorem ex_l1r {c : Addr} {Q : Addr → Prop} : (∃ k, [V.ref c] = [V.ref k] ∧ Q k) = Q c := by simp
end L2
namespace Att
open PySem PySem.W PySem.Calls PyProof.Rows
end Att
namespace L2
open PySem PySem.Spec PyProof.Rows
end L2
namespace L2
open PySem PySem.Spec PyProof.Rows
section
variable {X : Cx}
end
end L2
namespace L2
open PySem PySem.Spec PyProof.Rows
section
variable {α β : Type}
def Kd : Sem α → Prop
  | .pure _ => True
  | .raise _ => True
  | .unsupported _ => True
  | .finish _ => True
  | .rule _ k => Kd (k ())
  | .at _ k => Kd (k ())
  | .load _ _ k => ∀ o, Kd (k o)
  | .update _ _ f k => (∀ o : Obj, (f o).dict = o.dict ∧ (f o).isFreed = o.isFreed) ∧ Kd (k ())
  | .alloc _ k => ∀ a, Kd (k a)
  | .loadIfAlive _ k => ∀ o, Kd (k o)
  | .point _ k => Kd (k ())
  | .fresh k => ∀ n, Kd (k n)
  | .ask k => ∀ n, Kd (k n)
  | .handled _ k => ∀ n, Kd (k n)
  | .stack k => ∀ l, Kd (k l)
  | .thread k => ∀ n, Kd (k n)
  | _ => False
theorem kd_bind {f : α → Sem β} (hf : ∀ x, Kd (f x)) : ∀ {t : Sem α}, Kd t → Kd (t >>= f)
  | .pure a, _ => hf a
  | .raise _, _ => trivial
  | .unsupported _, _ => trivial
  | .finish _, _ => trivial
  | .rule _ k, h => kd_bind hf (t := k ()) h
  | .at _ k, h => kd_bind hf (t := k ()) h
  | .load _ _ k, h => fun o => kd_bind hf (t := k o) (h o)
  | .update _ _ _ k, h => ⟨h.1, kd_bind hf (t := k ()) h.2⟩
  | .alloc _ k, h => fun o => kd_bind hf (t := k o) (h o)
  | .loadIfAlive _ k, h => fun o => kd_bind hf (t := k o) (h o)
  | .point _ k, h => kd_bind hf (t := k ()) h
  | .fresh k, h => fun o => kd_bind hf (t := k o) (h o)
  | .ask k, h => fun o => kd_bind hf (t := k o) (h o)
  | .handled _ k, h => fun o => kd_bind hf (t := k o) (h o)
  | .stack k, h => fun o => kd_bind hf (t := k o) (h o)
  | .thread k, h => fun o => kd_bind hf (t := k o) (h o)
  | .register .., h => h.elim
  | .choose .., h => h.elim
  | .os .., h => h.elim
  | .call .., h => h.elim
  | .newGen .., h => h.elim
  | .genState .., h => h.elim
  | .resume .., h => h.elim
  | .yield .., h => h.elim
  | .fork .., h => h.elim
  | .await .., h => h.elim
def DictIs (e : Addr) (od : Option Addr) (h : Heap) : Prop := ∃ o, h.get? e = some o ∧ o.dict = od
theorem kd_wp {M : Model} {Γ : PySem.Ctx} {Q : α → Pos → Shared → Prop} {E : Value → Pos → Shared → Prop} {e : Addr} {od : Option Addr} : ∀ {t : Sem α} {p : Pos} {s : Shared}, Kd t → DictIs e od s.heap → Sem.wp M Γ t Q E p s →
    Sem.wp M Γ t (fun a p s' => Q a p s' ∧ DictIs e od s'.heap) E p s
  | .pure _, _, _, _, d, h => ⟨h, d⟩
  | .raise _, _, _, _, _, h => h
  | .unsupported _, _, _, _, _, h => h
  | .finish _, _, _, _, _, h => h
  | .rule _ k, _, _, c, d, h => kd_wp (t := k ()) c d h
  | .at _ k, _, _, c, d, h => kd_wp (t := k ()) c d h
  | .load _ _ k, _, _, c, d, ⟨o, ho, h⟩ => ⟨o, ho, kd_wp (t := k o) (c o) d h⟩
  | .update a _ f k, p, s, c, d, ⟨hi, h⟩ => by
    refine ⟨hi, kd_wp (t := k ()) c.2 ?_ h⟩
    obtain ⟨o, ho, hd⟩ := d
    by_cases ea : a = e
    · subst ea
      have nf : o.isFreed = false := (Heap.get?_some_iff.mp ho).2
      exact ⟨f o, Heap.get?_update_self f ho (by rw [(c.1 o).2]; exact nf), by rw [(c.1 o).1]; exact hd⟩
    · exact ⟨o, (Heap.get?_update_other _ f ea).trans ho, hd⟩
  | .alloc o k, p, s, c, ⟨o', ho, hd⟩, h => kd_wp (t := k _) (c _) ⟨o', Heap.get?_push_of_some _ ho, hd⟩ h
  | .loadIfAlive _ k, _, _, c, d, h => kd_wp (t := k _) (c _) d h
  | .point _ k, _, _, c, d, h => kd_wp (t := k ()) c d h
  | .fresh k, _, _, c, d, h => kd_wp (t := k _) (c _) d h
  | .ask k, _, _, c, d, h => kd_wp (t := k _) (c _) d h
  | .handled _ k, _, _, c, d, h => kd_wp (t := k _) (c _) d h
  | .stack k, _, _, c, d, h => kd_wp (t := k _) (c _) d h
  | .thread k, _, _, c, d, h => kd_wp (t := k _) (c _) d h
  | .register .., _, _, c, _, _ => c.elim
  | .choose .., _, _, c, _, _ => c.elim
  | .os .., _, _, c, _, _ => c.elim
  | .call .., _, _, c, _, _ => c.elim
  | .newGen .., _, _, c, _, _ => c.elim
  | .genState .., _, _, c, _, _ => c.elim
  | .resume .., _, _, c, _, _ => c.elim
  | .yield .., _, _, c, _, _ => c.elim
  | .fork .., _, _, c, _, _ => c.elim
  | .await .., _, _, c, _, _ => c.elim
theorem kd_any {M : Model} {A : Around} {t : Sem α} {Q : α → Shared → Prop} {E : Value → Shared → Prop} {s : Shared} {e : Addr} {od : Option Addr} (c : Kd t) (d : DictIs e od s.heap) (h : wpAny M A t (fun a s' => DictIs e od s'.heap → Q a s') E s) : wpAny M A t Q E s := fun Γ p hΓ =>
  Sem.wp_mono M Γ t (fun _ _ _ z => z.1 z.2) (fun _ _ _ z => z) p s (kd_wp c d (h Γ p hΓ))
end
theorem kd_mapFields (f : Array Value → Array Value) (o : Obj) : (Obj.mapFields f o).dict = o.dict ∧ (Obj.mapFields f o).isFreed = o.isFreed := by
  obtain ⟨c, d, dat, sl⟩ := o
  cases dat <;> exact ⟨rfl, rfl⟩
theorem kd_pure {α : Type} (a : α) : Kd (pure a : Sem α) := trivial
theorem kd_uns {α : Type} (w : String) : Kd (unsupported w : Sem α) := trivial
theorem kd_load (a : Addr) : Kd (load a) := fun _ => trivial
theorem kd_stack : Kd stack := fun _ => trivial
theorem kd_alloc (o : Obj) : Kd (alloc o) := fun _ => trivial
theorem kd_upd {a : Addr} {f : Obj → Obj} (h : ∀ o : Obj, (f o).dict = o.dict ∧ (f o).isFreed = o.isFreed) : Kd (update a f) := ⟨h, trivial⟩
theorem kd_if {α : Type} {c : Prop} [Decidable c] {a b : Sem α} (h1 : Kd a) (h2 : Kd b) : Kd (if c then a else b) := by
  split
  · exact h1
  · exact h2
theorem kd_field (v : Value) (i : Nat) : Kd (field v i) := by
  unfold field fieldsOf
  refine kd_bind (fun x => ?_) ?_
  · split
    · exact kd_pure _
    · exact kd_uns _
  · split
    · refine kd_bind (fun o => ?_) (kd_load _)
      split
      · exact kd_pure _
      · exact kd_uns _
    · exact kd_uns _
theorem kd_setField (v : Value) (i : Nat) (x : Value) : Kd (setField v i x) := by
  unfold setField updateField
  split
  · refine kd_bind (fun o => ?_) (kd_load _)
    split
    · exact kd_if (kd_upd (kd_mapFields _)) (kd_uns _)
    · exact kd_uns _
  · exact kd_uns _
theorem kd_newFields (ty : String) (vs : List Value) : Kd (newFields ty vs) := by
  unfold newFields newObj newObjAsIs
  simp only
  split
  · exact kd_uns _
  · exact kd_bind (fun _ => kd_pure _) (kd_alloc _)
theorem kd_readyFrames : ∀ l : List Env, Kd (readyFrames l)
  | [] => trivial
  | env :: outer => by
    have ih := kd_readyFrames outer
    unfold readyFrames
    split
    · refine kd_bind (fun o => ?_) (kd_load _)
      refine kd_if (kd_pure _) ?_
      refine kd_bind (fun im => ?_) ?_
      · refine kd_bind (fun bk => ?_) ?_
        · exact kd_bind (fun _ => ih) (kd_upd fun o => ⟨rfl, by obtain ⟨c, d, dat, sl⟩ := o; cases dat <;> rfl⟩)
        · unfold keptBack underTheClaimsCaller
          split
          · refine kd_if (kd_pure _) ?_
            exact kd_bind (fun _ => kd_pure _) (kd_bind (fun _ => kd_pure _) kd_stack)
          · exact kd_pure _
      · unfold behindIsImport
        refine kd_if (kd_pure _) (kd_if (kd_pure _) ?_)
        exact kd_bind (fun _ => kd_pure _) (kd_field _ _)
    · exact kd_uns _
theorem kd_frameOf (env : Env) : Kd (PySem.frameOf env) := by
  unfold PySem.frameOf frameEnvs
  refine kd_bind (fun x => ?_) (kd_bind (fun _ => kd_pure _) kd_stack)
  refine kd_bind (fun y => ?_) ?_
  · split
    · exact kd_pure _
    · exact kd_uns _
  · unfold frameObject
    split
    · exact kd_pure _
    · exact kd_bind (fun _ => kd_pure _) (kd_readyFrames _)
theorem kd_entryPlaceOf (f : Addr) (b : Bool) : Kd (entryPlaceOf f b) := by
  unfold entryPlaceOf
  refine kd_bind (fun x => ?_) kd_stack
  split
  · exact kd_pure _
  · exact kd_pure _
theorem kd_noteFrame (e : Value) (env : Env) : Kd (noteFrame e env) := by
  unfold noteFrame EntryCells.newEntry
  split
  · refine kd_bind (fun head => ?_) (kd_field _ _)
    have rest : ∀ f : Addr, Kd (do let a ← PySem.frameOf env; let pl ← entryPlaceOf f (head != .none); let b ← newFields "traceback" ([head, a, .none, rawInt f, .none] ++ (if pl.isEmpty then List.replicate 6 .none else pl)); setField e 1 b) := fun f =>
      kd_bind (fun _ => kd_bind (fun _ => kd_bind (fun _ => kd_setField _ _ _) (kd_newFields _ _)) (kd_entryPlaceOf _ _)) (kd_frameOf _)
    refine kd_if ?_ (rest _)
    refine kd_bind (fun x => kd_if (kd_pure _) ?_) (kd_field _ _)
    exact kd_bind (fun _ => rest _) (kd_setField _ _ _)
  · exact kd_uns _
theorem kd_setFlight (e : Value) (f : Option Addr) : Kd (setFlight e f) := by
  unfold setFlight
  exact kd_bind (fun _ => kd_if (kd_setField _ _ _) (kd_pure _)) (kd_field _ _)
theorem kd_leaving (env : Env) (e : Value) : Kd (leaving env e) := by
  unfold leaving
  exact kd_bind (fun _ => kd_setFlight _ _) (kd_noteFrame _ _)
structure ExI (K : PySem.W.Frag) (C fI : Addr) : Prop where
  lk : ∃ nm q N bs bm sn sub ab col dd k0 k1 k2 k3 k5, K.lookup C = some (excClassObj nm q C N bs bm true sn sub ab col dd k0 k1 k2 k3 k5 "ValueError.__new__") ∧ PySem.W.tailIn K veMro bm = true
  ini : PySem.W.findIn K (.ref C) "__init__" = some (some (.ref fI))
  fn : PySem.W.isFn K (.ref fI) = true
  kp : PySem.W.keepIn K (.ref C) = true
  mo : PySem.W.mroIn K C (.type "object") = some true
  sa : PySem.W.findIn K (.ref C) "__setattr__" = some (some (.builtin "object.__setattr__"))
section
variable {K : PySem.W.Frag} {prog : Program} {w : World} {A : Around} {E : Value → Shared → Prop} {h : Heap} {g : Array GenState} {d : Drawn} {t : Nat} {os : OsState} {C fI : Addr} {us : List Value}
theorem xi_step {bm : List Value} {nm q : Str} {N : Addr} {bs : List Value} {hdct : Bool} {sn : List Str} {sub : List Value} {ab : Bool} {col : Option Bool} {dd : Option Addr} {k0 k1 k2 k3 k5 : Option Value} {Q : Fin → Shared → Prop} (X : K.In h) (Z : ExI K C fI)
    (kC : h.get? C = some (excClassObj nm q C N bs bm hdct sn sub ab col dd k0 k1 k2 k3 k5 "ValueError.__new__")) (T : OwnTail h veMro bm) (hl : us.length ≤ sizeLine)
    (hq : ∀ h1 x, x = h.objs.size + 1 → Heap.MadeExcOf h h1 x (.ref C) us → wpAny (model prog w) A (call (.ref fI) (.ref x :: us)) (fun r s' => r = .none ∧ Q (.done (.ret (.ref x))) s') E ⟨h1, g, d, t, os⟩) :
    wpAny (model prog w) A (Builtin.«type.__call__» ⟨.ref C :: us, []⟩) Q E ⟨h, g, d, t, os⟩ := by
  have F := PySem.F.excBase_ValueError
  repeat (first | (with_reducible refine wpAny_loadPart_at kC ?_) | (with_reducible refine wpAny_madeBy_exc kC ?_) | wp_step)
  refine codeAny_call_builtin_code (Code.quiet_builtin _ F.quiet) (wpAny_check_new_subT F T kC (codeAny_exc_new_subT F T kC ?_ hl))
  show wpAny _ _ _ _ _ _
  have st : ∀ b o, h.get? b = some o → ((h.push { cls := .type "tuple", data := .seq us.toArray }).push { cls := .ref C, data := .fields #[.ref h.objs.size, .none, .none, .none, .bool false, .none] }).get? b = some o :=
    fun b o e => Heap.get?_push_of_some _ (Heap.get?_push_of_some _ e)
  have gx : ((h.push { cls := .type "tuple", data := .seq us.toArray }).push { cls := .ref C, data := .fields #[.ref h.objs.size, .none, .none, .none, .bool false, .none] }).get? (h.objs.size + 1) =
      some { cls := .ref C, data := .fields #[.ref h.objs.size, .none, .none, .none, .bool false, .none] } := by heap_get
  have gt : ((h.push { cls := .type "tuple", data := .seq us.toArray }).push { cls := .ref C, data := .fields #[.ref h.objs.size, .none, .none, .none, .bool false, .none] }).get? h.objs.size =
      some { cls := .type "tuple", data := .seq us.toArray } := Heap.get?_push_of_some _ (Heap.get?_push_at rfl rfl)
  generalize ((h.push { cls := .type "tuple", data := .seq us.toArray }).push { cls := .ref C, data := .fields #[.ref h.objs.size, .none, .none, .none, .bool false, .none] }) = h1 at st gx gt ⊢
  have X1 : K.In h1 := fun a o e => st a o (X a o e)
  have k1 := st _ _ kC
  have LI := PySem.W.looks_findIn (M := model prog w) X1 Z.ini
  have cC : (Value.ref C :: bm).contains (.ref C) = true := by simp
  unfold isInstance
  repeat (first | (with_reducible refine wpAny_loadPart_at gx ?_) | (with_reducible refine wpAny_isSubtype_exc k1 ?_; rw [cC]) | (with_reducible refine LI.at ?_) | wp_step)
  refine (PySem.W.bind_fn (M := model prog w) X1 (.ref (h.objs.size + 1)) (beq_iff_eq.mp Z.fn)).at ?_
  refine wpAny_bind (wpAny_mono (hq h1 (h.objs.size + 1) rfl ⟨st, Heap.get?_none_of_le (Nat.le_succ _), h.objs.size, gx, Heap.get?_none_of_le (Nat.le_refl _), gt⟩) (fun r s' z => ?_) fun _ _ z => z)
  obtain ⟨rfl, z⟩ := z
  refine wpAny_pure ?_
  wp_walk
  exact z
theorem xi_call {Q : Value → Shared → Prop} (X : K.In h) (Z : ExI K C fI) (hl : us.length ≤ sizeLine)
    (hq : ∀ h1 x, x = h.objs.size + 1 → Heap.MadeExcOf h h1 x (.ref C) us → wpAny (model prog w) (A.under (.builtin "type.__call__" ⟨.ref C :: us, []⟩)) (call (.ref fI) (.ref x :: us)) (fun r s' => r = .none ∧ Q (.ref x) s') E ⟨h1, g, d, t, os⟩) :
    wpAny (model prog w) A (call (.ref C) us) Q E ⟨h, g, d, t, os⟩ := by
  obtain ⟨nm, q, N, bs, bm, sn, sub, ab, col, dd, k0, k1, k2, k3, k5, lk, tl⟩ := Z.lk
  have kC := X _ _ lk
  have l1 := tc_lookup
  have l2 := tc_bind (.ref C)
  have l3 : (⟨h, g, d, t, os⟩ : Shared).TypeIs (.ref C) "type" := ⟨_, kC, rfl⟩
  refine wpAny_call (codeAny_of_tree ?_)
  show wpAny _ _ (callAny (.ref C) _) _ _ _
  repeat (any_goals (first | assumption | (with_reducible refine wpAny_loadPart_at kC ?_) | wp_step))
  refine ⟨rfl, codeAny_call_builtin_at (Code.quiet_builtin _ (by decide +kernel)) entry_typeCall (wpAny_check_type_call_sub kC ?_)⟩
  exact xi_step X Z kC (PySem.W.tail_of_in X tl) hl hq
end
def excN (x : Addr) (C : Addr) : HO := .ext fun h => ∃ o t0, h.get? x = some o ∧ o.cls = .ref C ∧ o.dict = none ∧ o.data = .fields #[.ref t0, .none, .none, .none, .bool false, .none]
def excD (x : Addr) (C dx : Addr) : HO := .ext fun h => ∃ o t0, h.get? x = some o ∧ o.cls = .ref C ∧ o.dict = some dx ∧ o.data = .fields #[.ref t0, .none, .none, .none, .bool false, .none]
structure ExB (K : PySem.W.Frag) (D : Addr) : Prop where
  sg : PySem.W.specialIn K (.ref D) "__getattribute__" = some (some (.builtin "type.__getattribute__"))
  rd : PySem.W.readsIn K D (.type "type") = true
  fc : PySem.W.findCls K (.ref D) (.type "type") "__init__" = some (.val (.builtin "ValueError.__init__"))
theorem upd_back {H : Hp} {x : Addr} {o : HO} (h : H x = some o) : upd H x o = H := by
  funext b
  unfold upd
  split
  · rename_i e
    rw [e, h]
  · rfl
section
variable {X : Cx} {pins : List (Addr × Obj)} {σ : St} {H : Hp} {s : Shared}
theorem base_init {A : Around} {E : Value → Shared → Prop} {Q : Value → Shared → Prop} {x C : Addr} {us : List Value} (I : Inv X pins σ H s) (hx : H x = some (excN x C)) (Z : ∃ fI, ExI X.K C fI) (hl : us.length ≤ sizeLine)
    (h : ∀ s', Inv X pins σ H s' → Q .none s') : wpAny (model X.prog X.w) A (call (.builtin "ValueError.__init__") (.ref x :: us)) Q E s := by
  obtain ⟨fI, Z⟩ := Z
  obtain ⟨nm, q, N, bs, bm, sn, sub, ab, col, dd, k0, k1, k2, k3, k5, lk, tl⟩ := Z.lk
  have kC := I.kIn _ _ lk
  have T := PySem.W.tail_of_in I.kIn tl
  have F := PySem.F.excBase_ValueError
  obtain ⟨⟨o, t0, ho, hc, hd, hdat⟩, _⟩ := (I.hok x _ hx : ObjOk X.prog X.w H s.heap x (excN x C))
  obtain ⟨hh, g, d, t, os⟩ := s
  obtain ⟨oc, od, odt, osl⟩ := o
  dsimp only at hc hd hdat
  subst hc hd hdat
  refine wpAny_call (codeAny_call_builtin F.init.plain F.initEntry (wpAny_check_init_subT F T kC ho rfl ?_))
  wp_walk
  have I1 : Inv X pins σ H { heap := hh.push { cls := .type "tuple", data := .seq us.toArray }, gens := g, drawn := d, toks := t, os := os } := I.kept (t' := t) fun b u e => Heap.get?_push_of_some _ e
  have gx : (hh.push { cls := .type "tuple", data := .seq us.toArray }).get? x = some ⟨.ref C, none, .fields #[.ref t0, .none, .none, .none, .bool false, .none], osl⟩ := Heap.get?_push_of_some _ ho
  have gy := Heap.get?_update_self (Obj.mapFields fun z => z.setIfInBounds 0 (Value.ref hh.objs.size)) gx rfl
  have I2 := I1.write (x := x) (e := x) (o := excN x C) (t' := t) (h' := (hh.push { cls := .type "tuple", data := .seq us.toArray }).update x (Obj.mapFields fun z => z.setIfInBounds 0 (Value.ref hh.objs.size)))
    (by rw [hx]; exact True.intro) (.inl rfl) (fun b u nb e => (Heap.get?_update_other _ _ (Ne.symm nb)).trans e) ⟨_, gy⟩ ⟨⟨_, _, gy, rfl, rfl, rfl⟩, ⟨_, gy⟩, fun _ _ ⟨o, t0, e, r⟩ k => ⟨o, t0, k o e, r⟩⟩
  rw [upd_back hx] at I2
  exact h _ I2
end
theorem refuse_tail {h : Heap} {self : Value} {what : Str} {l : List Value} (T : OwnTail h veMro l) (hb : refuseLoop self what veMro = pure ()) : refuseLoop self what l = pure () := by
  induction T with
  | base => exact hb
  | own _ _ _ _ ih => rw [refuseLoop_ref, ih]
section
open Builtin Builtin.ObjectAttr
variable {K : PySem.W.Frag} {prog : Program} {w : World} {A : Around} {E : Value → Shared → Prop} {h : Heap} {g : Array GenState} {d : Drawn} {t : Nat} {os : OsState} {C fI x : Addr} {v : Value} {name : Str} {o : Obj}
theorem osa_exc {tk : Tok} {R : Result → Shared → Prop} (X : K.In h) (Z : ExI K C fI) (na : PySem.W.findIn K (.ref C) name = some none) (hx : h.get? x = some o) (hc : o.cls = .ref C) (hd : o.dict = none) {fs : Array Value} (hf : o.data = .fields fs)
    (hq : ∀ h' tk', h'.get? x = some { o with dict := some h.objs.size } → h'.Ns1 h.objs.size (fun y => if y = name then some v else none) → (∀ b u, b ≠ x → h.get? b = some u → h'.get? b = some u) → R (.ok (.ret .none)) ⟨h', g, d, tk', os⟩) :
    codeAny (model prog w) A (.call (.builtin "object.__setattr__") ⟨[.ref x, .str name tk, v], []⟩) R ⟨h, g, d, t, os⟩ := by
  obtain ⟨nm, q, N, bs, bm, sn, sub, ab, col, dd, k0, k1, k2, k3, k5, lk, tl⟩ := Z.lk
  have kC := X _ _ lk
  have T := PySem.W.tail_of_in X tl
  have S := PySem.F.store_ValueError
  have LN := PySem.W.looks_findIn (M := model prog w) X na
  have pass : refuseLoop (.ref x) "__setattr__" (.ref C :: bm) = pure () := by
    rw [refuseLoop_ref]
    exact refuse_tail T (S.passes _)
  have cO : (Value.ref C :: bm).contains (.type "object") = true := by rw [List.contains_cons, T.hasType S.hasOwner, Bool.or_true]
  have LT : PySem.W.Looks (model prog w) h (typeOf (.ref x)) (.ref C) := hc ▸ (PySem.W.Looks.ld hx).andThen .now
  have LS : PySem.W.Looks (model prog w) h (isInstance (.ref x) (.type "object")) true := LT.andThen (PySem.W.looks_mroIn X Z.mo)
  refine codeAny_call_builtin S.slot.plain S.entry (@PySem.W.check_slot (model prog w) _ _ ⟨h, g, d, t, os⟩ "object.__setattr__" "object" "__setattr__" (.ref x) [.str name tk, v] [] _ S.kind S.split LS (S.args (.ref x) (.str name tk) v) ?_)
  unfold Builtin.«object.__setattr__»
  repeat (first | rw [refuse_eq] | rw [pass] | (with_reducible refine wpAny_loadPart_at hx ?_; rw [hc]) | (with_reducible refine wpAny_mroOf_exc kC ?_) | (with_reducible refine LN.at ?_) | wp_step)
  obtain ⟨oc, od, odt, osl⟩ := o
  dsimp only at hc hd hf
  subst hc hd hf
  dsimp only
  rw [if_neg (by simp [typeHasDict])]
  have gx : (h.push { cls := .type "dict", data := .dict #[] }).get? x = some ⟨.ref C, none, .fields fs, osl⟩ := Heap.get?_push_of_some _ hx
  have ns : x ≠ h.objs.size := Nat.ne_of_lt (Heap.lt_size hx)
  refine wpAny_bind (wpAny_alloc' (wpAny_bind (wpAny_update' gx (wpAny_pure ?_))))
  have gy := Heap.get?_update_self (fun o : Obj => { cls := o.cls, dict := some h.objs.size, data := o.data, slots := o.slots }) gx rfl
  have gd : ((h.push { cls := .type "dict", data := .dict #[] }).update x fun o => { cls := o.cls, dict := some h.objs.size, data := o.data, slots := o.slots }).get? h.objs.size = some { cls := .type "dict", data := .dict #[] } :=
    (Heap.get?_update_other _ _ ns).trans (Heap.get?_push_at rfl rfl)
  have keep : ∀ b u, b ≠ x → h.get? b = some u → ((h.push { cls := .type "dict", data := .dict #[] }).update x fun o => { cls := o.cls, dict := some h.objs.size, data := o.data, slots := o.slots }).get? b = some u := fun b u nb e =>
    (Heap.get?_update_other _ _ (Ne.symm nb)).trans (Heap.get?_push_of_some _ e)
  generalize ((h.push { cls := .type "dict", data := .dict #[] }).update x fun o => { cls := o.cls, dict := some h.objs.size, data := o.data, slots := o.slots }) = h2 at gy gd keep ⊢
  have nn : h2.Ns h.objs.size (fun _ => none) := ⟨_, #[], _, gd, rfl, fun e he => absurd he (by simp), fun _ => rfl⟩
  show wpAny _ _ (storeInDict h.objs.size (.str name tk) name v) _ _ _
  unfold storeInDict newKeyGuard
  refine wpAny_bind (wpAny_pure (wpAny_bind (wpAny_nsSet1 (Heap.Ns1.of_empty nn) fun h3 n3 s3 => ?_)))
  obtain ⟨oD, eD, pD, aD, bD, cD⟩ := n3.count (Within.cons name v Within.nil)
  refine wpAny_bind (wpAny_lookBehind aD (by rw [bD]; exact pastItsLine_dict (Nat.le_trans cD (by rw [List.length_cons, List.length_nil, sizeLine_eq]; (first|lia|omega)))) ?_)
  wp_walk
  exact hq h3 _ ((s3.2 x ns).trans gy) n3 fun b u nb e => (s3.2 b (Nat.ne_of_lt (Heap.lt_size e))).trans (keep b u nb e)
end
def tBI (K : PySem.W.Frag) (t : TA) : TE := fun σ H Q => t σ H fun vs H1 => ∃ x v C, vs = [.ref x, v] ∧ H1 x = some (excN x C) ∧ (∃ fI, ExI K C fI) ∧ Q .non H1
def sFldX (K : PySem.W.Frag) (to tv : TE) (f : Str) : TS := fun D σ H => tv σ H fun v H1 => to σ H1 fun x H2 => ∃ a C, x = .ref a ∧ H2 a = some (excN a C) ∧ (∃ fI, ExI K C fI) ∧ PySem.W.findIn K (.ref C) f = some none ∧
  ∀ dx, H2 dx = none → dx ≠ a → D.nx σ (upd (upd H2 a (excD a C dx)) dx (.xd [(f, v)]))
section
variable {X : Cx} {x : Str} {D : Addr} {np apos pos pos' : Pos} {e o value : Expr} {es : List Expr} {t : TA} {to tv : TE} {f : Str}
theorem pe_baseInit {pl : Sem Bool} (hg : Gl X x) (hm : X.mg x = some (.ref D)) (B : ExB X.K D) (ha : PA X (e :: es) t) (hdb : (x == ("__debug__" : Str)) = false := by decide)
    (hst : starEach (e :: es) X.env = (false, eval e X.env) :: starEach es X.env := by rfl) (hpl : (backTo pos (starEach es X.env)).any (·.1) = false := by rfl)
    (ht : eval (.Call (.Attribute (.Name x np) "__init__" apos) (e :: es) [] pos) X.env = (do
      let ov ← eval (.Name x np) X.env
      standAt apos.atName
      let (f, first) ← holding [ov] (getMethod ov "__init__" pl)
      callWith pos f first (backTo pos (starEach (e :: es) X.env)) (backToKw pos (keywordEach [] X.env))) := by rfl) :
    PE X (.Call (.Attribute (.Name x np) "__init__" apos) (e :: es) [] pos) (tBI X.K t) := by
  intro pins s σ H Q I h
  refine PySem.W.methodCall_KW (pl := pl) (ld_glob I hg hm ?_ hdb) ht
  refine PySem.W.method_cls I.kIn B.sg (PySem.W.cls_value I.kIn B.rd B.fc rfl ?_)
  have I1 := I.tok (s.toks + 1)
  have hA := ha pos pins _ σ H _ I1 h
  rw [hst] at hA ⊢
  refine Calls.callWith_builtin (by show (false || (backTo pos (starEach es X.env)).any (·.1)) = false; rw [hpl] <;> rfl) (Calls.evalArgs_plain ?_)
  refine thn hA fun us s2 hQ' => ?_
  obtain ⟨vs, H2, I2, r2, y, v, C, e1, e2, Z, q⟩ := hQ'
  subst e1
  obtain ⟨u1, u2, rfl, r3, r4⟩ := r2.two
  cases r3
  exact base_init (us := [u2]) I2 e2 Z (by show 1 ≤ sizeLine; decide) fun s' I' => ⟨.non, H2, I', rfl, q⟩
theorem ps_fldX (ho : PE X o to) (hv : PE X value tv) (hs : swapsWith value (some (.Attribute o f pos')) pos.line X.env = pure false) : PS X (.Assign [.Attribute o f pos'] value pos) (sFldX X.K to tv f) := by
  intro pins s σ H D I h
  refine plainObj_wpAny_Assign_Attribute (thn (hv pins s σ H _ I h) fun u s1 ⟨y, H1, I1, ry, q⟩ => thn (ho pins s1 σ H1 _ I1 q) fun ov s2 hQ' => ?_) hs
  obtain ⟨z, H2, I2, rx, a, C, ex, ea, ⟨fI, Z⟩, na, q2⟩ := hQ'
  subst ex
  obtain rfl : ov = Value.ref a := rx
  obtain ⟨⟨ox, t0, hx, hc, hd, hf⟩, _⟩ := (I2.hok a _ ea : ObjOk X.prog X.w H2 s2.heap a (excN a C))
  have J : PySem.W.InstAt s2.heap a ox C none := ⟨hx, hc, by unfold PySem.W.notCls; rw [hf], by rw [hd]; exact True.intro⟩
  refine PySem.W.set_plain I2.kIn J Z.sa ?_
  obtain ⟨hh, g, d, tk, os⟩ := s2
  refine osa_exc I2.kIn Z na hx hc hd hf fun h3 tk3 gx n3 keep => ?_
  have fr : H2 hh.objs.size = none := I2.hok.fresh (Nat.le_refl _)
  have ne : hh.objs.size ≠ a := (Nat.ne_of_lt (Heap.lt_size hx)).symm
  have W := I2.write (x := a) (e := a) (o := excD a C hh.objs.size) (t' := tk3) (h' := h3) (by rw [ea]; exact True.intro) (.inl rfl) (fun b v nb e => keep b v nb e) ⟨_, gx⟩ ⟨⟨_, t0, gx, hc, rfl, hf⟩, ⟨_, gx⟩, fun _ _ ⟨o, t0, e, r⟩ k => ⟨o, t0, k o e, r⟩⟩
  have fr2 : upd H2 a (excD a C hh.objs.size) hh.objs.size = none := by rw [upd_ne ne]; exact fr
  have V := W.track (a := hh.objs.size) (o := .xd [(f, y)]) fr2 (Heap.get?_none_of_le I2.sz) (fun z => ?_) (fun y c e z => ?_) (fun p hp z => ?_) ⟨_, n3, fun k => ?_⟩
  · exact ⟨σ, _, V, q2 _ fr ne⟩
  · obtain ⟨m, ⟨o, _, _, e, _⟩, _⟩ := I2.loc
    exact absurd z.symm (Nat.ne_of_lt (Heap.lt_size e))
  · obtain ⟨v, o, e1, _⟩ := I2.cell y c e
    exact absurd z (Nat.ne_of_lt (Heap.lt_size e1))
  · exact absurd z (Nat.ne_of_lt (Heap.lt_size (I2.pin p hp).1))
  · show RelO (List.lookup k [(f, y)]) (if k = f then some u else none)
    by_cases c : k = f
    · subst c
      rw [if_pos rfl]
      simp only [List.lookup,beq_self_eq_true]
      exact ry
    · rw [if_neg c]
      have : (k == f) = false := beq_eq_false_iff_ne.mpr c
      simp only [List.lookup,this]
      exact trivial
end
section
variable {X : Cx} {CX : CXT} {k : Nat} {f C : Addr} {fd : FuncData} {ps : List Str} {sp : Sp} {E : XK} {x : Str} {p pos : Pos} {e : Expr} {es : List Expr} {t : TA}
theorem Inv.laidAt {pins : List (Addr × Obj)} {σ : St} {H : Hp} {s : Shared} {h' : Heap} {a : Addr} {o : HO} (I : Inv X pins σ H s) (kp : ∀ b u, s.heap.get? b = some u → h'.get? b = some u) (hp : s.heap.objs.size ≤ a) (new : ObjOk X.prog X.w (upd H a o) h' a o) :
    Inv X pins σ (upd H a o) { s with heap := h' } := I.laid (t' := s.toks) kp hp new
theorem run_makeX {pins : List (Addr × Obj)} {σ : St} {H : Hp} {s : Shared} {Q : VK} {us : List Value} {vs : List V} (Z : ExI X.K C f) (F : FnOk X.prog X.w X.K X.mg X.base CX k f fd ps sp) (hr : Room (k + 1) X.A) (hb : Binds X.K fd ps []) (hx : Passes CX X E)
    (I : Inv X pins σ H s) (r : Vals vs us) (hl : us.length ≤ sizeLine) (h : ∀ y, H y = none → X.s₀.heap.get? y = none → sp (.ref y :: vs) (upd H y (excN y C)) (fun v H2 => v = .non ∧ Q (.ref y) H2) E) :
    wpAny (model X.prog X.w) X.A (call (.ref C) us) (EP X pins σ Q) X.xe s := by
  obtain ⟨hh, g, d, tk, os⟩ := s
  refine xi_call I.kIn Z hl fun h1 y ey M => ?_
  have hy : hh.objs.size ≤ y := by rw [ey]; exact Nat.le_succ _
  obtain ⟨t0, gy, _, _⟩ := M.there
  have I2 := I.laidAt (a := y) (o := excN y C) M.keeps hy ⟨⟨_, t0, gy, rfl, rfl, rfl⟩, ⟨_, gy⟩, fun _ _ ⟨o, t0, e, r⟩ k => ⟨o, t0, k o e, r⟩⟩
  have hq := h y (I.hok.fresh hy) (Heap.get?_none_of_le (Nat.le_trans I.sz hy))
  have r2 : Vals (V.ref y :: vs) (Value.ref y :: us) := .cons rfl r
  have hl2 : (Value.ref y :: us ++ []).length = ps.length := by
    rw [List.append_nil, ← r2.length]
    exact F.len _ _ _ _ hq
  have B := hb _ (Value.ref y :: us) I2.kIn hl2
  rw [List.append_nil] at B
  refine wpAny_call (codeAny_mono (F.run _ X.stack _ _ ⟨Value.ref y :: us, []⟩ (Value.ref y :: us) _ _ E (hr.make C us []) (I2.env0.make C us []) B r2 hq) fun res s' hq' => ?_)
  cases res with
  | error e => exact hx pins σ _ _ e s' I2 hq'
  | ok fl =>
    cases fl with
    | ret u =>
      obtain ⟨v, H', I3, rv, ev, q3⟩ := I2.after hq'
      subst ev
      exact ⟨rv, ⟨V.ref y, H', I3, rfl, q3⟩⟩
    | next => exact False.elim hq'
    | brk => exact False.elim hq'
    | cont => exact False.elim hq'
end
def CXV (P : Program) (w : World) : CXT := fun outer H s E e s' => ∃ (ea : Addr) (B : Heap) (cls a0 : Value) (H' : Hp) (od : Option Addr), e = .ref ea ∧ ExcAt P w outer H s (fun c _ H' => E c od H') ea s' B cls a0 H' ∧ DictIs ea od s'.heap
def delH (H : Hp) (x : Addr) : Hp := fun b => if b = x then none else H b
theorem delH_ne {H : Hp} {x b : Addr} (h : b ≠ x) : delH H x b = H b := if_neg h
theorem delH_self {H : Hp} {x : Addr} : delH H x x = none := if_pos rfl
theorem delH_some {H : Hp} {x b : Addr} {u : HO} (h : delH H x b = some u) : b ≠ x ∧ H b = some u := by
  unfold delH at h
  split at h
  · cases h
  · rename_i n
    exact ⟨n, h⟩
section
variable {P : Program} {w : World} {K : PySem.W.Frag} {mg : Str → Option Value} {base : Heap} {N : List Str} {qual : Str} {scope : Scope} {f : Addr} {cd : Value} {A : Around} {outer : List Env} {s₀ : Shared} {H₀ : Hp} {E : XK}
end
def ThrowsV (X : Cx) (E : XK) : Prop := ∀ (pins : List (Addr × Obj)) (σ : St) (H : Hp) (s : Shared) (y C dx : Addr), Inv X pins σ H s → H y = some (excD y C dx) → X.s₀.heap.get? y = none → E (.ref C) (some dx) (delH H y) → X.xe (.ref y) s
section
variable {P : Program} {w : World} {K : PySem.W.Frag} {mg : Str → Option Value} {base : Heap} {N : List Str} {qual : Str} {scope : Scope} {f : Addr} {cd : Value} {A : Around} {outer : List Env} {s₀ : Shared} {H₀ : Hp} {E : XK}
theorem throwsV : ThrowsV (cxOf (CXV P w) P w K mg base N qual scope f cd A outer s₀ H₀ E) E := by
  intro pins σ H s y C dx I hy n0 q
  replace n0 : s₀.heap.get? y = none := n0
  obtain ⟨⟨oy, t0, gy, cy, dy, fy⟩, _⟩ := (I.hok y _ hy : ObjOk _ _ H s.heap y (excD y C dx))
  have hfr := I.ok.frames
  have hst : s.heap.FunFrames base (envOfC qual scope s₀.heap.objs.size f cd :: outer) := I.stack
  have fresh : ∀ b ∈ frs (envOfC qual scope s₀.heap.objs.size f cd :: outer), H b = none := I.stkFree
  have yf : y ∉ frs (envOfC qual scope s₀.heap.objs.size f cd :: outer) := fun z => by rw [fresh y z] at hy; cases hy
  have inB : ∀ b o, s.heap.get? b = some o → b ≠ y → b ∉ frs (envOfC qual scope s₀.heap.objs.size f cd :: outer) → (PySem.W.hideAll s.heap (y :: frs (envOfC qual scope s₀.heap.objs.size f cd :: outer))).get? b = some o := fun b o e ny n =>
    PySem.W.hideAll_get _ e (fun z => (List.mem_cons.mp z).elim ny n)
  have st0 : (PySem.W.hideAll s.heap (y :: frs (envOfC qual scope s₀.heap.objs.size f cd :: outer))).StaysIn s.heap := fun b o q => PySem.W.of_hideAll _ q
  have hl : s.heap.FunFrames (PySem.W.hideAll s.heap (y :: frs (envOfC qual scope s₀.heap.objs.size f cd :: outer))) (envOfC qual scope s₀.heap.objs.size f cd :: outer) :=
    PySem.W.funFrames_hide hst fun env he a ha => List.mem_cons_of_mem _ (List.mem_filterMap.mpr ⟨env, he, ha⟩)
  have yB : (PySem.W.hideAll s.heap (y :: frs (envOfC qual scope s₀.heap.objs.size f cd :: outer))).get? y = none := PySem.W.hideAll_none _ List.mem_cons_self
  generalize PySem.W.hideAll s.heap (y :: frs (envOfC qual scope s₀.heap.objs.size f cd :: outer)) = B at inB st0 hl yB
  refine kd_any (kd_leaving _ _) ⟨oy, gy, dy⟩ (wpAny_leaving_firstW (base := B) (L := s₀.heap.objs.size) (a0 := .ref t0) hfr hl rfl gy st0 yB fy rfl rfl fun h2 lf d2 => ?_)
  obtain ⟨x1, ⟨_, _, x2⟩, x3, x4⟩ := lf
  have neL : ∀ b o, s₀.heap.get? b = some o → b ≠ s₀.heap.objs.size := fun b o e => Nat.ne_of_lt (Heap.lt_size e)
  have ney : ∀ b o, s₀.heap.get? b = some o → b ≠ y := fun b o e z => by rw [z, n0] at e; cases e
  have notin : ∀ b o, s₀.heap.get? b = some o → b ∉ frs outer → b ∉ frs (envOfC qual scope s₀.heap.objs.size f cd :: outer) := fun b o e hb z => by
    rcases List.mem_cons.mp (I.stkSub b z) with q | q
    · exact neL b o e q
    · exact hb q
  have slot : ∀ b o, s.heap.get? b = some o → b ∈ frs outer → ∃ sl, h2.get? b = some { o with slots := sl } := fun b o e hb => by
    obtain ⟨_, o', e', nf⟩ := hl.2.2.mem hb
    rw [e] at e'
    cases e'
    exact x4 b o e nf
  have hokB : HOk P w (delH H y) B := fun b u e => by
    obtain ⟨nb, e'⟩ := delH_some e
    refine (I.hok b u e').stay (fun c v hc q => inB c v q (fun z => ?_) fun z => ?_) (fun c q => ?_) fun c xs q => ?_
    · rcases hc with r | r
      · exact nb (r.symm.trans z)
      · rw [z, hy] at r
        cases r
    · rcases hc with r | r
      · rw [r] at z
        rw [fresh b z] at e'
        cases e'
      · rw [fresh c z] at r
        cases r
    · rw [delH_ne fun z => by rw [z, hy] at q; cases q]
      exact q
    · rw [delH_ne fun z => by rw [z, hy] at q; cases q]
      exact q
  have un : Un (frs outer) [] H₀ (delH H y) s₀.heap h2 := by
    refine ⟨fun b o e n hb hx => ?_, fun b o e n hb hx => ?_, fun b o e n hx => ?_, fun b o e hx => ?_, fun b xs e => ?_, fun b o u e => ?_, fun b ps e => ?_⟩
    · exact x1 b o (inB b o (I.base.keep b o e n hb hx) (ney b o e) (notin b o e hb))
    · obtain ⟨sl, e1⟩ := I.base.slot b o e n hb hx
      obtain ⟨sl', e2⟩ := slot b _ e1 hb
      exact ⟨sl', e2⟩
    · rw [delH_ne (ney b o e)]
      exact I.base.free b o e n hx
    · obtain ⟨o', e1⟩ := I.base.there b o e hx
      by_cases hb : b ∈ frs outer
      · obtain ⟨sl, e2⟩ := slot b o' e1 hb
        exact ⟨_, e2⟩
      · exact ⟨o', x1 b o' (inB b o' e1 (ney b o e) (notin b o e hb))⟩
    · have z := I.base.tups b xs e
      rw [delH_ne fun q => by rw [q, hy] at z; cases z]
      exact z
    · have z := I.base.frzs b o u e
      rw [delH_ne fun q => by rw [q, hy] at z; cases z]
      exact z
    · obtain ⟨m, z⟩ := I.base.tbls b ps e
      refine ⟨m, ?_⟩
      rw [delH_ne fun q => by rw [q, hy] at z; cases z]
      exact z
  rw [cy] at x3
  refine ⟨y, B, .ref C, .ref t0, delH H y, some dx, rfl, ⟨I.os, I.bare, un, hokB, ⟨x1, yB, x2, x3⟩, fun b o e n hb => ?_, fun b o e hb => ?_, n0, delH_self, q⟩, d2⟩
  · exact inB b o (I.base.keep b o e n hb (by intro z; cases z)) (ney b o e) (notin b o e hb)
  · obtain ⟨o', e1⟩ := I.base.there b o e (by intro z; cases z)
    exact ⟨o', inB b o' e1 (ney b o e) (notin b o e hb)⟩
end
section
variable {P : Program} {w : World} {K : PySem.W.Frag} {mg : Str → Option Value} {base : Heap} {N : List Str} {qual : Str} {scope : Scope} {f : Addr} {cd : Value} {A : Around} {outer : List Env} {s₀ : Shared} {H₀ : Hp} {E : XK}
end
section
variable {K : PySem.W.Frag} {prog : Program} {w : World} {A : Around} {E : Value → Shared → Prop} {s : Shared} {env : Env} {C fI : Addr}
theorem raise_exc {xs : Sem Value} {Q : Flow → Shared → Prop} (Z : ExI K C fI) (hh : A.handled = none)
    (h : wpAny (model prog w) A xs (fun v s1 => ∃ y o fs, v = .ref y ∧ K.In s1.heap ∧ s1.heap.get? y = some o ∧ o.cls = .ref C ∧ o.data = .fields fs ∧ fs[1]? = some .none ∧ E (.ref y) s1) E s) : wpAny (model prog w) A (raiseStmt env (some xs) none) Q E s := by
  obtain ⟨nm, q, N, bs, bm, sn, sub, ab, col, dd, k0, k1, k2, k3, k5, lk, tl⟩ := Z.lk
  unfold raiseStmt
  refine wpAny_bind (wpAny_mono h (fun v s1 z => ?_) fun _ _ z => z)
  obtain ⟨y, o, fs, rfl, X, gy, cy, fy, f1, hE⟩ := z
  obtain ⟨hp, g, d, tk, os⟩ := s1
  have kC := X _ _ lk
  have T := PySem.W.tail_of_in X tl
  have cB : (Value.ref C :: bm).contains (.type "BaseException") = true := by rw [List.contains_cons, T.hasType PySem.F.excBase_ValueError.hasBase, Bool.or_true]
  obtain ⟨oc, od, odt, osl⟩ := o
  dsimp only at cy fy
  subst cy fy
  repeat (first | (with_reducible refine wpAny_loadPart_at gy ?_) | (with_reducible refine wpAny_loadPart_at kC ?_) | (with_reducible refine wpAny_isSubtype_exc kC ?_; rw [cB]) | wp_step)
  rw [f1]
  refine wpAny_pure ?_
  rw [if_neg (by decide)]
  exact wpAny_pure (wpAny_raiseNew_none hh hE)
end
def spInit (C : Addr) (nm : Str) : Sp := fun vs H Q _ => ∃ y v, vs = [.ref y, v] ∧ H y = some (excN y C) ∧ ∀ dx, H dx = none → dx ≠ y → Q .non (upd (upd H y (excD y C dx)) dx (.xd [(nm, v)]))
def tRaiseV (C : Addr) (nm : Str) (E : XK) (t : TA) : TS := fun _ σ H => t σ H fun vs H1 => ∃ v, vs = [v] ∧ ∀ dx, H1 dx = none → E (.ref C) (some dx) (upd H1 dx (.xd [(nm, v)]))
theorem delH_made {H : Hp} {y dx : Addr} {o u : HO} (h : H y = none) (n : dx ≠ y) : delH (upd (upd H y o) dx u) y = upd H dx u := by
  funext b
  unfold delH upd
  by_cases e : b = y
  · rw [if_pos e, if_neg (by rw [e]; exact n.symm), e, h]
  · rw [if_neg e]
    by_cases e2 : b = dx
    · rw [if_pos e2, if_pos e2]
    · rw [if_neg e2, if_neg e, if_neg e2]
theorem ps_raiseV {X : Cx} {CX : CXT} {k : Nat} {C f : Addr} {fd : FuncData} {ps : List Str} {nm x : Str} {E : XK} {np cpos pos : Pos} {e : Expr} {es : List Expr} {t : TA} (Z : ExI X.K C f) (F : FnOk X.prog X.w X.K X.mg X.base CX k f fd ps (spInit C nm)) (hr : Room (k + 1) X.A) (hg : Gl X x) (hm : X.mg x = some (.ref C))
    (hb : Binds X.K fd ps []) (hx : Passes CX X E0) (hc : X.calm = true) (hT : ThrowsV X E) (ha : PA X (e :: es) t) (hdb : (x == ("__debug__" : Str)) = false := by decide) (he : starEach (e :: es) X.env = (false, eval e X.env) :: starEach es X.env := by rfl) (hpl : (backTo cpos (starEach es X.env)).any (·.1) = false := by rfl) :
    PS X (.Raise (some (.Call (.Name x np) (e :: es) [] cpos)) none pos) (tRaiseV C nm E t) := by
  intro pins s σ H D I h
  rw [arm_exec_Raise]
  refine wpAny_bind (wpAny_standAt (raise_exc Z (I.ok.hd hc) (wpAny_bind (wpAny_mono (Q := fun v s1 => ∃ y o fs, v = .ref y ∧ X.K.In s1.heap ∧ s1.heap.get? y = some o ∧ o.cls = .ref C ∧ o.data = .fields fs ∧ fs[1]? = some .none ∧ X.xe (.ref y) s1) ?_ (fun v s3 h3 => wpAny_bind (wpAny_standAt (wpAny_pure h3))) fun _ _ z => z))))
  refine wpAny_Call_Name_kw (ld_glob I hg hm ?_ hdb)
  refine PySem.W.callWith_K (h₀ := X.base) I.ok.mod.kin Z.kp (thn (ha cpos pins s σ H _ I h) fun us s1 ⟨vs, H1, I1, r, v, e1, q⟩ => ⟨I1.kIn, ?_⟩) he hpl
  subst e1
  obtain ⟨u, rfl, ru⟩ := vals1 r
  refine thn (run_makeX (Q := fun z H2 => ∃ y dx, z = .ref y ∧ X.s₀.heap.get? y = none ∧ H2 y = some (excD y C dx) ∧ E (.ref C) (some dx) (delH H2 y)) Z F hr hb hx I1 r (by show 1 ≤ sizeLine; decide) fun y hy n0 => ?_) fun z s2 ⟨v2, H2, I2, rz, y, dx, ev, n0, hy, hE⟩ => ?_
  · refine ⟨y, v, rfl, upd_same, fun dx hd nd => ⟨rfl, y, dx, rfl, n0, ?_, ?_⟩⟩
    · rw [upd_ne nd.symm, upd_same]
    · rw [upd_upd] 
      have hd1 : H1 dx = none := by rw [upd_ne nd] at hd; exact hd
      rw [delH_made hy nd]
      exact q dx hd1
  · subst ev
    obtain rfl : z = Value.ref y := rz
    obtain ⟨⟨oy, t0, gy, cy, dy, fy⟩, _⟩ := (I2.hok y _ hy : ObjOk X.prog X.w H2 s2.heap y (excD y C dx))
    exact ⟨y, oy, _, rfl, I2.kIn, gy, cy, fy, rfl, hT pins σ H2 s2 y C dx I2 hy n0 hE⟩
theorem Fun.okV {P : Program} {w : World} {K : PySem.W.Frag} {mg : Str → Option Value} {base : Heap} {x qual : Str} {st : Stmt} {f : Addr} {fd : FuncData} {N ps : List Str} {k : Nat} {sp : Sp} (F : Fun K x qual st f fd) (S : FnScope N ps (defScope st)) (len : ∀ vs H Q E, sp vs H Q E → vs.length = ps.length)
    (hbody : ∀ (cdv : Value) (A : Around) (outer : List Env) (s : Shared) (H : Hp) (vs : List V) (Q : VK) (E : XK), Room k (A.deeper (envOfC qual (defScope st) s.heap.objs.size f cdv)) → sp vs H Q E →
      ∃ t, PSs (cxOf (CXV P w) P w K mg base N qual (defScope st) f cdv A outer s H E) (defBody st) t ∧ t { nx := fun _ H' => Q .non H', rt := Q } (L2.start N vs) H) : FnOk P w K mg base (CXV P w) (k + 1) f fd ps sp := by
  obtain ⟨oc, od, kV, doc, pm, an, cdv, ct, osl, rfl, lk, hcd⟩ := F.ex
  exact fn_of lk hcd S len fun A outer s H vs Q E hr hsp => hbody cdv A outer s H vs Q E hr hsp
def ExcVIs (a : Addr) (c : Value) (od : Option Addr) (h : Heap) : Prop := ∃ oe vs, h.get? a = some oe ∧ oe.cls = c ∧ oe.data = .fields vs ∧ oe.dict = od
def excVO (a : Addr) (c : Value) (od : Option Addr) : HO := .ext (ExcVIs a c od)
theorem ExcVIs.is {a : Addr} {c : Value} {od : Option Addr} {h : Heap} (x : ExcVIs a c od h) : ExcIs a c h := let ⟨oe, vs, e1, e2, e3, _⟩ := x; ⟨oe, vs, e1, e2, e3⟩
def tTryV (K : PySem.W.Frag) (tb : (St → XK) → TS) (D : Value) (i : Nat) (th : TS) : TS := fun d σ H =>
  tb (fun σ' c od H' => ExcCls K c ∧ PySem.W.subIn K c D = some true ∧ ∀ a, H' a = none → th { d with nx := fun σ2 H2 => d.nx (σ2.set i none) H2, bk := fun σ2 H2 => d.bk (σ2.set i none) H2, ct := fun σ2 H2 => d.ct (σ2.set i none) H2 } (σ'.set i (some (.ref a))) (upd H' a (excVO a c od))) d σ H
def Cx.inTryV (X : Cx) (pins : List (Addr × Obj)) (E : St → XK) : Cx := { X with
  pn := X.pn ++ pins
  xe := fun e s' => ∃ pins' σ H s, Inv { X with pn := X.pn ++ pins } pins' σ H s ∧ CXV X.prog X.w X.stack H s (E σ) e s' }
theorem Inv.toTryV {X : Cx} {pins : List (Addr × Obj)} {σ : St} {H : Hp} {s : Shared} (I : Inv X pins σ H s) (E : St → XK) : Inv (X.inTryV pins E) [] σ H s :=
  ⟨I.ok.pinned _ _, I.os, I.bare, I.base, I.loc, I.cell, I.free, I.freeC, fun p hp => I.pin p (by rw [List.append_nil] at hp; exact hp), I.hok, I.len⟩
theorem passSV {X : Cx} {pins : List (Addr × Obj)} {E : St → XK} : PassesS (CXV X.prog X.w) (X.inTryV pins E) E := fun pins' σ H s e s' I h =>
  ⟨pins', σ, H, s, ⟨I.ok.pinned _ _, I.os, I.bare, I.base, I.loc, I.cell, I.free, I.freeC, I.pin, I.hok, I.len⟩, h⟩
theorem SP.ofTryV {X : Cx} {pins pins' : List (Addr × Obj)} {E : St → XK} {D : Ends} {f : Flow} {s' : Shared} (ok : X.Ok) (h : SP (X.inTryV pins E) pins' D f s') : SP X pins D f s' := by
  cases f with
  | next => obtain ⟨σ', H', I, q⟩ := h; exact ⟨σ', H', I.ofTry ok, q⟩
  | brk => obtain ⟨σ', H', I, q⟩ := h; exact ⟨σ', H', I.ofTry ok, q⟩
  | cont => obtain ⟨σ', H', I, q⟩ := h; exact ⟨σ', H', I.ofTry ok, q⟩
  | ret u => obtain ⟨v, σ', H', I, r, q⟩ := h; exact ⟨v, σ', H', I.ofTry ok, r, q⟩
theorem ps_tryV {X : Cx} {i : Nat} {D : Addr} {x n : Str} {np pos hpos : Pos} {body : List Stmt} {b₀ : Stmt} {suite : List Stmt} {tb : (St → XK) → TS} {th : TS} (hm : X.mg x = some (.ref D)) (hq : PySem.W.excIn X.K D veMro "ValueError.__new__" = true)
    (hg : Gl X x) (hN : X.N.Nodup) (hi : X.N[i]? = some n) (hl : X.env.scope.names.lookup n = some .local) (hxe : X.xe = fun _ _ => False) (hst : X.stack = X.env :: X.outer) (hfr : X.env.frame = some X.env.locals) (hex : X.ex = [])
    (hb : ∀ pins E, PSs (X.inTryV pins E) body (tb E)) (hh : ∀ ea, PSs (X.inExc ea) (b₀ :: suite) th) (hd : (x == ("__debug__" : Str)) = false := by decide) :
    PS X (.Try body [.ExceptHandler (some (.Name x np)) (some n) (b₀ :: suite) hpos] [] [] pos) (tTryV X.K tb (.ref D) i th) := by
  intro pins s σ H d I h
  refine wpAny_Try_except (wpAny_mono (hb pins _ [] s σ H d (I.toTryV _) h) (fun f s₁ q => ?_) fun e s₁ q => ?_)
  · have q' := SP.ofTryV I.ok q
    cases f with
    | next => exact wpAny_execs_nil q'
    | brk => exact q'
    | cont => exact q'
    | ret u => exact q'
  obtain ⟨pins', σ', H1, s1, I1, ea, B, cls, a0, H', od, rfl, x, dd⟩ := q
  replace I1 : Inv X pins σ' H1 s1 := Inv.ofTry (xe := X.xe) I1 I.ok
  obtain ⟨hec, hsub, hth⟩ := x.want
  have fly := x.fly
  rw [hst] at fly
  have ff := x.fly.2.2.1
  have hfrm : X.A.frames = some (X.env :: X.outer) := by rw [← hst]; exact I.ok.frames
  refine kd_any (kd_noteFrame _ _) dd (wpAny_looks_onW (base := B) (L := X.env.locals) hfrm hfr fly fun h4 hd4 sm4 d4 => ?_)
  refine kd_any (kd_setFlight _ _) d4 (wpAny_landsW hd4 fun h5 fl5 sm5 d5 => ?_)
  have invAt : ∀ {h : Heap} {tk : Nat}, B.StaysIn h → s₁.heap.UpToSlots h → Inv X pins σ' H' { s₁ with heap := h, toks := tk } := fun {h tk} st sm => by
    obtain ⟨un, hok⟩ := x.later st sm ff
    exact I1.call' (ch := []) x.os un hok x.bare fun b z => nomatch z
  have I5 : Inv X pins σ' H' { s₁ with heap := h5 } := invAt (tk := s₁.toks) fl5.1 (sm4.trans sm5)
  have fmark : (X.A.mark (some (.ref ea))).frames = some X.stack := I.ok.frames
  refine wpAny_handleBy_cons (codeAny_handlers_test ?_) (by intro q; cases q)
  refine ld_glob (X := X.inExc ea) (I5.toExc fmark) hg hm ?_ hd
  have kin5 := I5.kIn
  obtain ⟨oe, hoe, hcls⟩ := fl5.there
  refine excMatches_own (cls := cls) hoe hcls (ownExc_of kin5 hq) (PySem.W.looks_subIn kin5 hsub) ?_
  refine codeAny_handlers_suite_as ?_
  refine kd_any (kd_setFlight _ _) d5 (lands_againW fl5 fun h6 fl6 sm6 d6 => ?_)
  have I6 : Inv X pins σ' H' { s₁ with heap := h6 } := invAt (tk := s₁.toks) fl6.1 ((sm4.trans sm5).trans sm6)
  have noat : ∀ b o, s1.heap.get? b = some o → b ≠ ea := fun b o e z => by rw [z, x.new] at e; cases e
  have n0 : X.s₀.heap.get? ea = none := by
    cases q : X.s₀.heap.get? ea with
    | none => rfl
    | some o =>
      obtain ⟨o', e1⟩ := I1.base.there ea o q (by rw [hex]; intro z; cases z)
      exact absurd rfl (noat ea o' e1)
  have nL : ea ≠ X.env.locals := by
    obtain ⟨m, ⟨o, _, _, e, _⟩, _⟩ := I1.loc
    exact (noat _ o e).symm
  have nC : ∀ y c, X.env.cells.lookup y = some c → c ≠ ea := fun y c e => by
    obtain ⟨v, z⟩ := I1.cell y c e
    obtain ⟨o, e1, _⟩ := z
    exact noat c o e1
  have nP : ∀ p ∈ X.pn ++ pins, p.1 ≠ ea := fun p hp => noat _ _ (I1.pin p hp).1
  have isx : ExcVIs ea cls od h6 := by
    obtain ⟨_, _, _, oe, vs, _, _, _, he, hc, hd, _⟩ := fl6
    obtain ⟨o', e', ed⟩ := d6
    rw [he] at e'
    cases e'
    exact ⟨oe, vs, he, hc.1, hd, ed⟩
  have I7 := I6.track (o := excVO ea cls od) x.free n0 nL nC nP ⟨isx, by obtain ⟨oe, _, he, _⟩ := isx; exact ⟨oe, he⟩, fun h1 h2 ⟨oe, vs, he, r⟩ k => ⟨oe, vs, k oe he, r⟩⟩
  refine store_ok (X := X.inExc ea) (v := .ref ea) (I7.toExc fmark) hN hi (.inl hl) rfl (fun s8 I8 => ?_) (.inr hl)
  refine wpAny_mono (hh ea pins s8 _ _ _ I8 (hth ea x.free)) (fun f s9 q => ?_) fun e s9 q => ?_
  · cases f with
    | next =>
      obtain ⟨σ9, H9, I9, r⟩ := q
      exact gone_ok (I9.ofExc I.ok) hN hi hl fun s10 I10 => ⟨_, _, I10, r⟩
    | brk =>
      obtain ⟨σ9, H9, I9, r⟩ := q
      exact gone_ok (I9.ofExc I.ok) hN hi hl fun s10 I10 => ⟨_, _, I10, r⟩
    | cont =>
      obtain ⟨σ9, H9, I9, r⟩ := q
      exact gone_ok (I9.ofExc I.ok) hN hi hl fun s10 I10 => ⟨_, _, I10, r⟩
    | ret u =>
      obtain ⟨v, σ9, H9, I9, rv, r⟩ := q
      exact gone_ok (I9.ofExc I.ok) hN hi hl fun s10 I10 => ⟨v, _, _, I10, rv, r⟩
  · rw [show (X.inExc ea).xe = X.xe from rfl, hxe] at q
    exact q.elim
section
open Builtin Builtin.ObjectAttr PySem.W
variable {K : PySem.W.Frag} {prog : Program} {w : World} {A : Around} {E : Value → Shared → Prop} {h : Heap} {g : Array GenState} {d : Drawn} {t : Nat} {os : OsState} {a C dx : Addr}
theorem exc_fldEntry {f : Str} {tk : Tok} {v : Value} {o : Obj} {od : Option Obj} {Q : Fin → Shared → Prop} (X : K.In h) (J : PySem.W.InstAt h a o C od) (hf : PySem.W.findObj K C od f = some (.value v)) (hq : Q (.done (.ret v)) ⟨h, g, d, t, os⟩) :
    wpAny (model prog w) A (Builtin.«object.__getattribute__» ⟨[.ref a, .str f tk], []⟩) Q E ⟨h, g, d, t, os⟩ := by
  have L0 := J.type (M := model prog w)
  have L1 := PySem.W.looks_find (M := model prog w) X J hf
  refine wpAny_bind (wpAny_pure (wpAny_bind (wpAny_pure (wpAny_bind (L0.at (wpAny_bind (L1.at ?_)))))))
  exact wpAny_pure hq
theorem exc_fld {f : Str} {v : Value} {b : Bool} {o : Obj} {od : Option Obj} {Q : Value → Shared → Prop} (X : K.In h) (Z : ExcKit5 K C) (J : PySem.W.InstAt h a o C od) (hf : PySem.W.findObj K C od f = some (.value v)) (hv : PySem.W.handedIn v = true) (hq : Q v ⟨h, g, d, t + 1, os⟩) :
    wpAny (model prog w) A (getAttr (.ref a) f b) Q E ⟨h, g, d, t, os⟩ := by
  have FB := PySem.F.attrBase_ValueError
  have LG := PySem.W.looks_findIn (M := model prog w) X Z.ga
  have LN := PySem.W.looks_findIn (M := model prog w) X Z.gn
  have hx := J.at_
  have hc := J.cls
  have f3 := FB.ga.bind (.ref a)
  have n2 : (Value.builtin "BaseException.__getattribute__" == Value.builtin "object.__getattribute__") = false := by decide +kernel
  have n1 : (onTheHeap (Value.ref C) && (Value.builtin "BaseException.__getattribute__" == Value.builtin "object.__getattribute__")) = false := by rw [n2]; rfl
  unfold getAttr
  repeat (any_goals (first | assumption | (with_reducible refine wpAny_loadPart_at hx ?_; rw [hc]) | with_reducible refine LG.at ?_ | with_reducible refine LN.at ?_ | wp_step))
  rw [show (b && onTheHeap (Value.builtin "BaseException.__getattribute__")) = false from Bool.and_false _, if_neg Bool.false_ne_true]
  repeat (any_goals (first | assumption | wp_step))
  refine codeAny_call_builtin FB.ga.plain F.entry_bexc_ga (exc_clsCheck X Z hx hc (exc_fldEntry X J hf ?_))
  show wpAny _ _ (handedOut v) _ _ _
  rw [PySem.W.handedOut_of hv]
  exact wpAny_pure hq
end
structure XAttr (K : PySem.W.Frag) (C : Addr) (f : Str) : Prop where
  five : ExcKit5 K C
  hd : PySem.W.hasDictIn K C = true
  na : PySem.W.findIn K (.ref C) f = some none
def tXFld (K : PySem.W.Frag) (ta : TE) (f : Str) : TE := fun σ H Q => ta σ H fun x H1 => ∃ a C dx fs v, x = .ref a ∧ H1 a = some (excVO a (.ref C) (some dx)) ∧ H1 dx = some (.xd fs) ∧ XAttr K C f ∧ fs.lookup f = some v ∧ Q v H1
def rIsiV (K : PySem.W.Frag) : List V → Hp → VK → Prop := fun xs H Q => ∃ a c cv od dv b, xs = [.ref a, c] ∧ clsV c = some dv ∧ H a = some (excVO a cv od) ∧ ExcCls K cv ∧ PySem.W.kitOne K cv dv = some b ∧ Q (.bl b) H
section
variable {X : Cx} {e : Expr} {f : Str} {pos : Pos} {ta : TE}
theorem pe_xfld (he : PE X e ta) (hb : attributeBase e f X.env (eval e X.env) = eval e X.env) : PE X (.Attribute e f pos) (tXFld X.K ta f) := by
  intro pins s σ H Q I h
  refine attr_of hb (thn (he pins s σ H _ I h) fun u s1 hQ' => ?_)
  obtain ⟨x, H1, I1, rx, a, C, dx, fs, v, ex, ea, ed, Z, l, q⟩ := hQ'
  subst ex
  obtain rfl : u = Value.ref a := rx
  obtain ⟨⟨oe, vs, ge, ce, fe, de⟩, _⟩ := (I1.hok a _ ea : ObjOk X.prog X.w H1 s1.heap a (excVO a (.ref C) (some dx)))
  obtain ⟨mA, ns, r⟩ := (I1.hok dx _ ed : ObjOk X.prog X.w H1 s1.heap dx (.xd fs))
  obtain ⟨u, hu, ru⟩ := RelO.some_of (v := v) (o := mA f) (by rw [← l]; exact r f)
  obtain ⟨oD, gD, lD⟩ := lookIn_ns ns
  have J : PySem.W.InstAt s1.heap a oe C (some oD) := ⟨ge, ce, by unfold PySem.W.notCls; rw [fe], by rw [de]; exact gD⟩
  have I2 := I1.tok (s1.toks + 1)
  obtain ⟨hh, g, d, t, os⟩ := s1
  exact exc_fld I1.kIn Z.five J (PySem.W.findObj_own Z.hd Z.na rfl (by rw [lD, hu])) (handed_of ru) ⟨v, H1, I2, ru, q⟩
theorem call_isinstV : CallR X (.builtin "isinstance") (rIsiV X.K) := by
  intro pins s σ H xs us Q I r h
  obtain ⟨a, c, cv, od, dv, b, rfl, hc, ha, k, e, q⟩ := h
  obtain ⟨u, w', rfl, rx, rw'⟩ := vals2 r
  obtain rfl := clsV_rel rw' hc
  cases (show u = Value.ref a from rx)
  obtain ⟨p, _, _⟩ := (show ObjOk X.prog X.w H s.heap a (excVO a cv od) from I.hok a _ ha)
  exact PySem.W.kia_one (k.kit a) I.kIn p.is e (fun z => nomatch z) fun tk => ⟨.bl b, H, I.tok tk, rfl, q⟩
end
theorem excCls_ofI {K : PySem.W.Frag} {C fI : Addr} (Z : ExcKit5 K C) (ZI : ExI K C fI) : ExcCls K (.ref C) := by
  obtain ⟨nm, q, N, bs, bm, sn, sub, ab, col, dd, k0, k1, k2, k3, k5, lk, tl⟩ := ZI.lk
  exact ⟨fun x => {
    ty := fun M h _ p => by
      obtain ⟨oe, vs, e, c, _⟩ := p
      exact c ▸ (PySem.W.Looks.ld e).andThen .now
    it := fun M h X _ => by
      have hC := X _ _ lk
      intro A' Q' E' s' k q
      unfold isType loadHead
      exact wpAny_bind (wpAny_loadPart (k _ _ hC) (wpAny_pure q))
    ne := fun h tp dd its n sl X htp => by
      have hC := X _ _ lk
      refine Bool.eq_false_iff.mpr fun q => ?_
      have e : C = tp := Value.ref.inj (beq_iff_eq.mp q)
      subst e
      rw [hC] at htp
      have z := congrArg Obj.data (Option.some.inj htp)
      exact nomatch z
    ca := fun {prog w A E Q s} X p q => by
      obtain ⟨h, g, d, t, os⟩ := s
      obtain ⟨oe, vs, e, c, _⟩ := p
      exact exc_clsAttr X Z PySem.F.attrBase_ValueError e c q }⟩
theorem rd_init {K : PySem.W.Frag} {C fI : Addr} {nm : Str} {H : Hp} {Q : VK} {y : Addr} {v : V} (Z : ExI K C fI) (na : PySem.W.findIn K (.ref C) nm = some none) (hy : H y = some (excN y C)) (q : ∀ dx, H dx = none → dx ≠ y → Q .non (upd (upd H y (excD y C dx)) dx (.xd [(nm, v)]))) :
    (tSeq (tDrop (tBI K (tCons (tVar 0) (tCons (tVar 1) tNil)))) (sFldX K (tVar 0) (tVar 1) nm)) { nx := fun _ H' => Q .non H', rt := Q } [some (.ref y), some v] H := by
  simp only [tSeq,tDrop,tBI,tCons,tNil,tVar,sFldX,List.getElem?_cons_zero,List.getElem?_cons_succ,Option.some.injEq,exists_eq_left']
  exact ⟨y, v, C, rfl, hy, ⟨_, Z⟩, y, C, rfl, hy, ⟨_, Z⟩, na, q⟩
theorem passV0 {P : Program} {w : World} {X : Cx} : Passes (CXV P w) X E0 := fun _ _ _ _ _ _ _ ⟨_, _, _, _, _, _, _, x, _⟩ => x.want.elim
def clsBody : Stmt → List Stmt
  | .ClassDef _ _ _ b _ _ _ _ _ _ _ => b
  | _ => []
theorem vlst2 {us : List Value} (h : us.length = 2) : ∃ x y, us = [x, y] := match us, h with | [x, y], _ => ⟨x, y, rfl⟩
end L2
namespace L2
open PySem
end L2
namespace L2.Srt
open PySem PyProof.Rows PySem.W
section
variable {prog : Program} {w : World} {A : Around} {E : Value → Shared → Prop} {s : Shared}
end
end L2.Srt
namespace L2
open PySem PySem.Spec PyProof.Rows
section
variable {X : Cx}
end
end L2
namespace L2.Srt
open PySem PyProof.Rows PySem.W
section
variable {prog : Program} {w : World} {A : Around} {E : Value → Shared → Prop} {s : Shared} {I l : Addr} {its : Array Value}
end
end L2.Srt
namespace L2
open PySem PySem.Spec PyProof.Rows
section
variable {X : Cx} {e : Expr} {t : TA} {p1 p2 pos1 pos2 : Pos}
end
end L2
namespace L2.Zt
open PySem PySem.Spec PyProof.Rows
section
variable {P : Program} {w : World} {A : Around} {E : Value → Shared → Prop} {s : Shared}
end
end L2.Zt
namespace L2
open PySem PySem.Spec PyProof.Rows
end L2
namespace L2.St
open PySem
def it (m : Nat) : Nat → Nat → Nat
  | 0, x => x
  | n + 1, x => it m n ((x * 5 + 1) % m)
end L2.St
namespace L2.St
open PySem
section
variable {P : Program} {w : World} {A : Around} {E : Value → Shared → Prop} {s : Shared}
end
end L2.St
namespace L2.St
open PySem
section
variable {P : Program} {w : World} {A : Around} {E : Value → Shared → Prop} {s : Shared}
end
end L2.St
namespace L2.St
open PySem PySem.Spec
def kk (key : Nat → List Int) (ad : Nat → Addr) : Nat → List (List Int × Addr)
  | 0 => []
  | i + 1 => (key i, ad i) :: kk key ad i
section
variable {P : Program} {w : World} {A : Around} {E : Value → Shared → Prop} {s : Shared}
end
end L2.St
namespace L2
open PySem PySem.Spec PyProof.Rows
section
variable {X : Cx} {pins : List (Addr × Obj)} {s : Shared} {σ : St} {H : Hp}
variable {e : Expr} {t : TA} {p1 p2 pos1 pos2 : Pos}
end
end L2
set_option maxHeartbeats 4000000
local macro_rules
  | `(tactic| simp_all only [$xs,*]) => do
    let ds ← ("tVar_c0 tVar_c1 tVar_c2 tVar_c3 tVar_c4 tVar_c5 tVar_c6 tVar_c7 tVar_c8 tVar_c9 tVar_c10 tVar_c11 tVar_c12 rI_c rI0_c rIxL_c ex_bl ex_int ex_ref ex_l1i ex_l1r gName_c0 gName_c1 gName_c3 gName_c4 gName_c5 gName_c6 gName_c7 gName_c8 gName_c9 gName_c10 gName_c11 gName_c12 tTryV rCatT tRev tComp_eq rRep rSum tNoTest tSl tNoPart tPart rSlL rAppend tCallS rCat tFor_eq iRng1 tSeq tNext tAsg gTup gCons gNil tCB tCons tNil tC tOp tUn tTest tAnd tIfS tRet tDrop tLst tTup tCall rU rEq gName_c2 rIn tBM iList tOr rNe tVar_c13 tVar_c14 tVar_c15 gName_c13 rPopAt tRng2 rListRng rInsert iRng2 tPar rCount tB tNot rIxT_c tRaiseV rLenD iEnum tChain tDIn tDisp tPairs tAndV tXFld rNeD tNotV".splitOn " ").toArray.mapM fun s => `(Lean.Parser.Tactic.simpLemma| ↓ $(Lean.mkIdent s.toName):ident)
    let ps ← ("capS Option.bind_some Option.bind_none Option.join_some Option.map_some List.getElem?_cons_zero List.getElem?_cons_succ V.str.injEq V.ty.injEq tVar rI rI0 rIxL L2.start truV_int truV_bl scal_int scal_bl List.map_cons List.map_nil List.length_cons List.length_nil List.replicate List.cons_append List.nil_append List.append_nil Option.some.injEq exists_eq_left' exists_eq_left exists_and_left List.cons.injEq V.int.injEq V.ref.injEq V.bl.injEq and_true true_and List.set_cons_zero List.set_cons_succ Nat.reduceAdd Nat.reduceSub Int.reduceToNat Int.reducePow Int.reduceNeg Int.reduceMul Int.reduceAdd Int.reduceSub decide_eq_true_eq Bool.not_eq_true' decide_eq_false_iff_not exists_const and_assoc exists_eq exists_eq' if_true if_false Bool.false_eq_true Bool.true_eq_false reduceCtorEq not_true_eq_false not_false_eq_true rIxT sDPut".splitOn " ").toArray.mapM fun s => `(Lean.Parser.Tactic.simpLemma| $(Lean.mkIdent s.toName):ident)
    `(tactic| simp only [$xs,*, $ds,*, $ps,*])
namespace My
local macro_rules | `(tactic| omega) => `(tactic| lia)
open PySem L2
def top (i : Nat) : Stmt := PySem.Challenge.pw_hideworth_k37_webs_looked_at.main.body.getD i (.Pass ⟨0, 0, 0, 0⟩)
abbrev s_is_whole : Stmt := top 21
abbrev s_is_within : Stmt := top 22
abbrev s_is_road : Stmt := top 27
abbrev s_places_come_to : Stmt := top 28
abbrev s_look_web : Stmt := top 29
abbrev s__law_mixed : Stmt := top 31
abbrev s__law_whole : Stmt := top 32
abbrev s__law_class : Stmt := top 33
abbrev s__law_length : Stmt := top 34
abbrev s__law_web : Stmt := top 35
abbrev s__law_any_web : Stmt := top 36
abbrev s__law_due : Stmt := top 37
abbrev s__law_spoiled : Stmt := top 38
abbrev s__law_caught : Stmt := top 39
abbrev s_law : Stmt := top 40
abbrev si_NoWeb : Stmt := (clsBody (top 16)).getD 0 (.Pass ⟨0, 0, 0, 0⟩)
set_option genInjectivity false in
set_option genSizeOf false in
structure Ad where
  f_is_whole : Addr
  d_is_whole : FuncData
  f_is_within : Addr
  d_is_within : FuncData
  f_is_road : Addr
  d_is_road : FuncData
  f_places_come_to : Addr
  d_places_come_to : FuncData
  f_look_web : Addr
  d_look_web : FuncData
  f__law_mixed : Addr
  d__law_mixed : FuncData
  f__law_whole : Addr
  d__law_whole : FuncData
  f__law_class : Addr
  d__law_class : FuncData
  f__law_length : Addr
  d__law_length : FuncData
  f__law_web : Addr
  d__law_web : FuncData
  f__law_any_web : Addr
  d__law_any_web : FuncData
  f__law_due : Addr
  d__law_due : FuncData
  f__law_spoiled : Addr
  d__law_spoiled : FuncData
  f__law_caught : Addr
  d__law_caught : FuncData
  f_law : Addr
  d_law : FuncData
  c_HideError : Addr
  c_NoWeb : Addr
  c_NoPlan : Addr
  c_NoText : Addr
  c_NoKind : Addr
  c_TooGreat : Addr
  c_NoTree : Addr
  c_NoWeights : Addr
  c_NoTurns : Addr
  c_NoNumber : Addr
  c_NoBoxes : Addr
  c_NoBudget : Addr
  c_NoName : Addr
  c_NoOrder : Addr
  c_NoPlay : Addr
  c_NoRoad : Addr
  c_NoRow : Addr
  c_NoTable : Addr
  c_NoPaper : Addr
  i_NoWeb : Addr
  j_NoWeb : FuncData
  k_MOST_PLACES : Tok
  k_MOST_ROADS : Tok
  k_MOST_LENGTH : Tok
structure Isa (K : PySem.W.Frag) (a : Ad) : Prop where
  k_NoWeb : PySem.W.kitOne K (.ref a.c_NoWeb) (.ref a.c_NoWeb) = some true
  k_NoPlan : PySem.W.kitOne K (.ref a.c_NoWeb) (.ref a.c_NoPlan) = some false
  k_NoText : PySem.W.kitOne K (.ref a.c_NoWeb) (.ref a.c_NoText) = some false
  k_NoKind : PySem.W.kitOne K (.ref a.c_NoWeb) (.ref a.c_NoKind) = some false
  k_TooGreat : PySem.W.kitOne K (.ref a.c_NoWeb) (.ref a.c_TooGreat) = some false
  k_NoTree : PySem.W.kitOne K (.ref a.c_NoWeb) (.ref a.c_NoTree) = some false
  k_NoWeights : PySem.W.kitOne K (.ref a.c_NoWeb) (.ref a.c_NoWeights) = some false
  k_NoTurns : PySem.W.kitOne K (.ref a.c_NoWeb) (.ref a.c_NoTurns) = some false
  k_NoNumber : PySem.W.kitOne K (.ref a.c_NoWeb) (.ref a.c_NoNumber) = some false
  k_NoBoxes : PySem.W.kitOne K (.ref a.c_NoWeb) (.ref a.c_NoBoxes) = some false
  k_NoBudget : PySem.W.kitOne K (.ref a.c_NoWeb) (.ref a.c_NoBudget) = some false
  k_NoName : PySem.W.kitOne K (.ref a.c_NoWeb) (.ref a.c_NoName) = some false
  k_NoOrder : PySem.W.kitOne K (.ref a.c_NoWeb) (.ref a.c_NoOrder) = some false
  k_NoPlay : PySem.W.kitOne K (.ref a.c_NoWeb) (.ref a.c_NoPlay) = some false
  k_NoRoad : PySem.W.kitOne K (.ref a.c_NoWeb) (.ref a.c_NoRoad) = some false
  k_NoRow : PySem.W.kitOne K (.ref a.c_NoWeb) (.ref a.c_NoRow) = some false
  k_NoTable : PySem.W.kitOne K (.ref a.c_NoWeb) (.ref a.c_NoTable) = some false
  k_NoPaper : PySem.W.kitOne K (.ref a.c_NoWeb) (.ref a.c_NoPaper) = some false
  k_ValueError : PySem.W.kitOne K (.ref a.c_NoWeb) (.type "ValueError") = some true
  sub : PySem.W.subIn K (.ref a.c_NoWeb) (.ref a.c_HideError) = some true
  ec : ExcCls K (.ref a.c_NoWeb)
structure Txt (K : PySem.W.Frag) (mg : Str → Option Value) (a : Ad) : Prop where
  F_is_whole : Fun K "is_whole" "is_whole" s_is_whole a.f_is_whole a.d_is_whole
  b_is_whole : Binds K a.d_is_whole ["thing"] []
  m_is_whole : mg "is_whole" = some (.ref a.f_is_whole)
  F_is_within : Fun K "is_within" "is_within" s_is_within a.f_is_within a.d_is_within
  b_is_within : Binds K a.d_is_within ["thing", "least", "most"] []
  m_is_within : mg "is_within" = some (.ref a.f_is_within)
  F_is_road : Fun K "is_road" "is_road" s_is_road a.f_is_road a.d_is_road
  b_is_road : Binds K a.d_is_road ["thing", "many"] []
  m_is_road : mg "is_road" = some (.ref a.f_is_road)
  F_places_come_to : Fun K "places_come_to" "places_come_to" s_places_come_to a.f_places_come_to a.d_places_come_to
  b_places_come_to : Binds K a.d_places_come_to ["roads"] []
  m_places_come_to : mg "places_come_to" = some (.ref a.f_places_come_to)
  F_look_web : Fun K "look_web" "look_web" s_look_web a.f_look_web a.d_look_web
  b_look_web : Binds K a.d_look_web ["web"] []
  m_look_web : mg "look_web" = some (.ref a.f_look_web)
  F__law_mixed : Fun K "_law_mixed" "_law_mixed" s__law_mixed a.f__law_mixed a.d__law_mixed
  b__law_mixed : Binds K a.d__law_mixed ["_law_script", "_law_k"] []
  m__law_mixed : mg "_law_mixed" = some (.ref a.f__law_mixed)
  F__law_whole : Fun K "_law_whole" "_law_whole" s__law_whole a.f__law_whole a.d__law_whole
  b__law_whole : Binds K a.d__law_whole ["_law_told"] []
  m__law_whole : mg "_law_whole" = some (.ref a.f__law_whole)
  F__law_class : Fun K "_law_class" "_law_class" s__law_class a.f__law_class a.d__law_class
  b__law_class : Binds K a.d__law_class ["_law_caught_here"] []
  m__law_class : mg "_law_class" = some (.ref a.f__law_class)
  F__law_length : Fun K "_law_length" "_law_length" s__law_length a.f__law_length a.d__law_length
  b__law_length : Binds K a.d__law_length ["_law_number"] []
  m__law_length : mg "_law_length" = some (.ref a.f__law_length)
  F__law_web : Fun K "_law_web" "_law_web" s__law_web a.f__law_web a.d__law_web
  b__law_web : Binds K a.d__law_web ["_law_script", "_law_start", "_law_most", "_law_extra"] []
  m__law_web : mg "_law_web" = some (.ref a.f__law_web)
  F__law_any_web : Fun K "_law_any_web" "_law_any_web" s__law_any_web a.f__law_any_web a.d__law_any_web
  b__law_any_web : Binds K a.d__law_any_web ["_law_script", "_law_start"] []
  m__law_any_web : mg "_law_any_web" = some (.ref a.f__law_any_web)
  F__law_due : Fun K "_law_due" "_law_due" s__law_due a.f__law_due a.d__law_due
  b__law_due : Binds K a.d__law_due ["_law_web_here"] []
  m__law_due : mg "_law_due" = some (.ref a.f__law_due)
  F__law_spoiled : Fun K "_law_spoiled" "_law_spoiled" s__law_spoiled a.f__law_spoiled a.d__law_spoiled
  b__law_spoiled : Binds K a.d__law_spoiled ["_law_web_here", "_law_script", "_law_k"] []
  m__law_spoiled : mg "_law_spoiled" = some (.ref a.f__law_spoiled)
  F__law_caught : Fun K "_law_caught" "_law_caught" s__law_caught a.f__law_caught a.d__law_caught
  b__law_caught : Binds K a.d__law_caught ["_law_web_here"] []
  m__law_caught : mg "_law_caught" = some (.ref a.f__law_caught)
  F_law : Fun K "law" "law" s_law a.f_law a.d_law
  b_law : Binds K a.d_law ["_law_script"] []
  m_law : mg "law" = some (.ref a.f_law)
  z_list : mg "list" = none
  z_range : mg "range" = none
  z_len : mg "len" = none
  z_isinstance : mg "isinstance" = none
  z_int : mg "int" = none
  z_bool : mg "bool" = none
  z_tuple : mg "tuple" = none
  z_min : mg "min" = none
  z_max : mg "max" = none
  z_sum : mg "sum" = none
  z_enumerate : mg "enumerate" = none
  z_ValueError : mg "ValueError" = none
  m_HideError : mg "HideError" = some (.ref a.c_HideError)
  m_NoWeb : mg "NoWeb" = some (.ref a.c_NoWeb)
  m_NoPlan : mg "NoPlan" = some (.ref a.c_NoPlan)
  m_NoText : mg "NoText" = some (.ref a.c_NoText)
  m_NoKind : mg "NoKind" = some (.ref a.c_NoKind)
  m_TooGreat : mg "TooGreat" = some (.ref a.c_TooGreat)
  m_NoTree : mg "NoTree" = some (.ref a.c_NoTree)
  m_NoWeights : mg "NoWeights" = some (.ref a.c_NoWeights)
  m_NoTurns : mg "NoTurns" = some (.ref a.c_NoTurns)
  m_NoNumber : mg "NoNumber" = some (.ref a.c_NoNumber)
  m_NoBoxes : mg "NoBoxes" = some (.ref a.c_NoBoxes)
  m_NoBudget : mg "NoBudget" = some (.ref a.c_NoBudget)
  m_NoName : mg "NoName" = some (.ref a.c_NoName)
  m_NoOrder : mg "NoOrder" = some (.ref a.c_NoOrder)
  m_NoPlay : mg "NoPlay" = some (.ref a.c_NoPlay)
  m_NoRoad : mg "NoRoad" = some (.ref a.c_NoRoad)
  m_NoRow : mg "NoRow" = some (.ref a.c_NoRow)
  m_NoTable : mg "NoTable" = some (.ref a.c_NoTable)
  m_NoPaper : mg "NoPaper" = some (.ref a.c_NoPaper)
  m_MOST_PLACES : mg "MOST_PLACES" = some (.int 60 a.k_MOST_PLACES)
  m_MOST_ROADS : mg "MOST_ROADS" = some (.int 120 a.k_MOST_ROADS)
  m_MOST_LENGTH : mg "MOST_LENGTH" = some (.int 1000000 a.k_MOST_LENGTH)
  x_HideError : PySem.W.excIn K a.c_HideError veMro "ValueError.__new__" = true
  B : ExB K a.c_HideError
  I_NoWeb : Fun K "__init__" "NoWeb.__init__" si_NoWeb a.i_NoWeb a.j_NoWeb
  bi_NoWeb : Binds K a.j_NoWeb ["self", "road"] []
  X_NoWeb : ExI K a.c_NoWeb a.i_NoWeb
  xa_NoWeb : XAttr K a.c_NoWeb "road"
  I : Isa K a
theorem pow18 : CPow 10 18 := ⟨by decide, by decide, by decide⟩
theorem logA : (0 : Int) < 1000000000000000000 ∧ (Int.natAbs 1000000000000000000).log2 < 9000 := by decide +kernel
theorem logB : (0 : Int) < 2147483587 ∧ (Int.natAbs 2147483587).log2 < 9000 := by decide +kernel
theorem log8 : (0 : Int) < 8 ∧ (Int.natAbs 8).log2 < 9000 := by decide +kernel
def spWhole : Sp := fun vs H Q _ => ∃ a : Int, vs = [.int a] ∧ Q (.bl true) H
def spMixed (K : PySem.W.Frag) : Sp := fun vs H Q _ => ∃ (a : Addr) (ns : List Int) (k : Int), vs = [.ref a, .int k] ∧ SqL K H a (ns.map V.int) ∧ ns.length ≤ 63 ∧ 0 ≤ k ∧ k < 1000000 ∧ ∀ r : Int, 0 ≤ r → r < 2147483587 → Q (.int r) H
def spLaw (K : PySem.W.Frag) : Sp := fun vs H Q _ => ∃ (a : Addr) (ns : List Int), vs = [.ref a] ∧ SqL K H a (ns.map V.int) ∧ ns.length ≤ 63 ∧ ∀ H', Q (.bl true) H'
theorem map_at {α β : Type} {f : α → β} {l : List α} {i : Nat} {y : β} (h : (l.map f)[i]? = some y) : ∃ x, l[i]? = some x ∧ y = f x := by
  rw [List.getElem?_map] at h
  obtain ⟨x, h1, h2⟩ := Option.map_eq_some_iff.mp h
  exact ⟨x, h1, h2.symm⟩
def Tps {α : Type} (f : α → List V) (H : Hp) (ts : List Addr) (bs : List α) : Prop := ts.length = bs.length ∧ ∀ (i : Nat) t b, ts[i]? = some t → bs[i]? = some b → H t = some (.tup (f b))
theorem Tps.same {α : Type} {f : α → List V} {H H' : Hp} {ts : List Addr} {bs : List α} (h : Tps f H ts bs) (s : Same H H') : Tps f H' ts bs := ⟨h.1, fun i t b e1 e2 => s _ _ (h.2 i t b e1 e2)⟩
theorem Tps.nil {α : Type} {f : α → List V} {H : Hp} : Tps f H [] ([] : List α) := ⟨rfl, fun i t b e => by simp at e⟩
theorem Tps.app {α : Type} {f : α → List V} {H : Hp} {ts us : List Addr} {bs cs : List α} (h : Tps f H ts bs) (h2 : Tps f H us cs) : Tps f H (ts ++ us) (bs ++ cs) := by
  refine ⟨by rw [List.length_append, List.length_append, h.1, h2.1], fun i x y e1 e2 => ?_⟩
  by_cases c : i < ts.length
  · rw [List.getElem?_append_left c] at e1
    rw [List.getElem?_append_left (by rw [← h.1]; exact c)] at e2
    exact h.2 i x y e1 e2
  · have c1 : ts.length ≤ i := by omega
    rw [List.getElem?_append_right c1] at e1
    rw [List.getElem?_append_right (by rw [← h.1]; exact c1), ← h.1] at e2
    exact h2.2 _ x y e1 e2
theorem Tps.at {α : Type} {f : α → List V} {H : Hp} {ts : List Addr} {bs : List α} (h : Tps f H ts bs) {i : Nat} {t : Addr} (e : ts[i]? = some t) : ∃ b, bs[i]? = some b ∧ H t = some (.tup (f b)) := by
  have hi := (List.getElem?_eq_some_iff.mp e).1
  rw [h.1] at hi
  exact ⟨bs[i], List.getElem?_eq_getElem hi, h.2 i t _ e (List.getElem?_eq_getElem hi)⟩
theorem mem_at {α : Type} {l : List α} {i : Nat} {x : α} (e : l[i]? = some x) : x ∈ l := List.mem_of_getElem? e
def Off (p c : Addr) (H : Hp) : Hp := fun b => if b = p ∨ b = c then none else H b
theorem off_le (p c : Addr) (H : Hp) : Same (Off p c H) H := fun b o h => by
  unfold Off at h
  split at h
  · cases h
  · exact h
theorem off_at {p c b : Addr} {H : Hp} (h1 : b ≠ p) (h2 : b ≠ c) : Off p c H b = H b := if_neg (fun z => z.elim h1 h2)
theorem off_ne {p c b : Addr} {H : Hp} {o : HO} (h : Off p c H b = some o) : b ≠ p ∧ b ≠ c := by
  unfold Off at h
  split at h
  · cases h
  · rename_i z
    exact ⟨fun e => z (.inl e), fun e => z (.inr e)⟩
theorem off_p {p c : Addr} {H : Hp} {o : HO} : Off p c (upd H p o) = Off p c H := by
  funext b
  unfold Off upd
  split
  · rfl
  · rename_i z
    rw [if_neg fun e => z (.inl e)]
theorem off_same {H H' : Hp} (p c : Addr) (s : Same H H') : Same (Off p c H) (Off p c H') := fun b o h => by
  have n := off_ne h
  rw [off_at n.1 n.2] at h ⊢
  exact s _ _ h
theorem while_W {c : TT} {tb : TS} {D : Ends} {σ : St} {H : Hp} (W : Nat → St → Hp → Prop) {m : Nat} (h0 : W m σ H)
    (hs : ∀ m σ H, W m σ H → c σ H fun b H1 => if b = true then ∃ N : St → Hp → Prop, (∀ σ' H', N σ' H' → ∃ m', m' < m ∧ W m' σ' H') ∧ tb { D with nx := N, ct := N, bk := D.nx } σ H1 else D.nx σ H1) : tWhile c tb D σ H := ⟨W, ⟨m, h0⟩, hs⟩
abbrev Road := Int × Int × Int
abbrev rdv (r : Road) : List V := [.int r.1, .int r.2.1, .int r.2.2]
def GR (m : Int) (r : Road) : Prop := 0 ≤ r.1 ∧ r.1 < m ∧ 0 ≤ r.2.1 ∧ r.2.1 < m ∧ r.1 ≠ r.2.1 ∧ 1 ≤ r.2.2 ∧ r.2.2 ≤ 1000000
instance (m : Int) (r : Road) : Decidable (GR m r) := by unfold GR; infer_instance
def Conn (m : Int) (rs : List Road) : Prop := ∀ S : Int → Prop, S 0 → (∀ r ∈ rs, S r.1 ∨ S r.2.1 → S r.1 ∧ S r.2.1) → ∀ x, 0 ≤ x → x < m → S x
structure GW (m : Int) (rs : List Road) : Prop where
  m1 : 1 ≤ m
  m60 : m ≤ 60
  l120 : rs.length ≤ 120
  gr : ∀ r ∈ rs, GR m r
  conn : Conn m rs
structure WebH (H : Hp) (w rl : Addr) (ts : List Addr) (m : Int) (rs : List Road) : Prop where
  hw : H w = some (.tup [.int m, .ref rl])
  hl : H rl = some (.lst (ts.map V.ref))
  ht : Tps rdv H ts rs
theorem WebH.same {H H' : Hp} {w rl : Addr} {ts : List Addr} {m : Int} {rs : List Road} (h : WebH H w rl ts m rs) (s : Same H H') : WebH H' w rl ts m rs := ⟨s _ _ h.hw, s _ _ h.hl, h.ht.same s⟩
def spWithin : Sp := fun vs H Q _ => ∃ x l m : Int, vs = [.int x, .int l, .int m] ∧ Q (.bl (decide (l ≤ x ∧ x ≤ m))) H
def spIsRoad : Sp := fun vs H Q _ => ∃ (t : Addr) (r : Road) (m : Int), vs = [.ref t, .int m] ∧ H t = some (.tup (rdv r)) ∧ Q (.bl (decide (GR m r))) H
def spCome : Sp := fun vs H Q _ => ∃ (rl : Addr) (ts : List Addr) (rs : List Road) (m : Int), vs = [.ref rl] ∧ H rl = some (.lst (ts.map V.ref)) ∧ Tps rdv H ts rs ∧ 1 ≤ m ∧ m ≤ 60 ∧ (∀ r ∈ rs, GR m r) ∧ ∀ (d : Addr) (kvs : List (Key × V)) (H' : Hp), Same H H' → H' d = some (.dK kvs) → (m ≤ (kvs.length : Int) ↔ Conn m rs) → Q (.ref d) H'
theorem isi_lst_lst {K : PySem.W.Frag} {H : Hp} {Q : VK} {r : Addr} {xs : List V} (h : H r = some (.lst xs)) (q : Q (.bl true) H) : rIsi K [.ref r, .ty "list"] H Q := ⟨_, _, _, _, true, rfl, rfl, .of (.lst h), rfl, q⟩
def badAt (m : Int) : List Road → Option Nat
  | [] => none
  | r :: rs => if GR m r then (badAt m rs).map (· + 1) else some 0
theorem badAt_at {m : Int} : ∀ {rs : List Road} {i : Nat} {r : Road}, rs[i]? = some r → ¬ GR m r → (∀ (j : Nat) q, j < i → rs[j]? = some q → GR m q) → badAt m rs = some i
  | x :: rs, 0, r, e, h, _ => by
    cases e
    unfold badAt
    rw [if_neg h]
  | x :: rs, i + 1, r, e, h, hb => by
    unfold badAt
    rw [if_pos (hb 0 x (Nat.succ_pos _) rfl), badAt_at (rs := rs) e h fun j q hj hq => hb (j + 1) q (Nat.succ_lt_succ hj) hq]
    rfl
theorem badAt_none {m : Int} : ∀ {rs : List Road}, (∀ r ∈ rs, GR m r) → badAt m rs = none
  | [], _ => rfl
  | x :: rs, h => by
    unfold badAt
    rw [if_pos (h x (by simp)), badAt_none fun r hr => h r (by simp [hr])]
    rfl
def Good (m : Int) (rs : List Road) : Prop := badAt m rs = none ∧ 1 ≤ m ∧ m ≤ 60 ∧ rs.length ≤ 120 ∧ Conn m rs
def DueIs (m : Int) (rs : List Road) (d : Int) : Prop := (∃ k : Nat, badAt m rs = some k ∧ d = k) ∨ (badAt m rs = none ∧ ¬ (1 ≤ m ∧ m ≤ 60 ∧ rs.length ≤ 120 ∧ Conn m rs) ∧ d = -1)
theorem DueIs.one {m : Int} {rs : List Road} {d d' : Int} (h : DueIs m rs d) (h' : DueIs m rs d') : d = d' := by
  rcases h with ⟨k, h1, h2⟩ | ⟨h1, _, h2⟩
  · rcases h' with ⟨k', h3, h4⟩ | ⟨h3, _⟩
    · rw [h1] at h3
      cases h3
      rw [h2, h4]
    · rw [h1] at h3
      cases h3
  · rcases h' with ⟨k', h3, h4⟩ | ⟨h3, _, h4⟩
    · rw [h1] at h3
      cases h3
    · rw [h2, h4]
theorem DueIs.not {m : Int} {rs : List Road} {d : Int} (h : DueIs m rs d) (g : Good m rs) : False := by
  rcases h with ⟨k, h1, h2⟩ | ⟨h1, h2, _⟩
  · rw [g.1] at h1
    cases h1
  · exact h2 g.2
def spLookWebX (a : Ad) : Sp := fun vs H Q E => ∃ (w rl : Addr) (ts : List Addr) (m : Int) (rs : List Road), vs = [.ref w] ∧ WebH H w rl ts m rs ∧ rs.length ≤ 200 ∧ (Good m rs → ∀ H', Same H H' → Q .non H') ∧ (∀ d, DueIs m rs d → ∀ (dx : Addr) (H' : Hp), Same H H' → H' dx = none → E (.ref a.c_NoWeb) (some dx) (L2.upd H' dx (.xd [("road", .int d)])))
def spDue : Sp := fun vs H Q _ => ∃ (w rl : Addr) (ts : List Addr) (m : Int) (rs : List Road), vs = [.ref w] ∧ WebH H w rl ts m rs ∧ rs.length ≤ 200 ∧ (Good m rs → ∀ H', Same H H' → Q .non H') ∧ (∀ d, DueIs m rs d → ∀ H', Same H H' → Q (.int d) H')
def spSpoiled (K : PySem.W.Frag) : Sp := fun vs H Q _ => ∃ (w rl p : Addr) (ts : List Addr) (m : Int) (rs : List Road) (ns : List Int) (k : Int), vs = [.ref w, .ref p, .int k] ∧ WebH H w rl ts m rs ∧ rs.length ≤ 130 ∧ SqL K H p (ns.map V.int) ∧ ns.length ≤ 63 ∧ 0 ≤ k ∧ k ≤ 1000 ∧
  ∀ (w' rl' : Addr) (ts' : List Addr) (m' : Int) (rs' : List Road) (H' : Hp), Same H H' → WebH H' w' rl' ts' m' rs' → rs'.length ≤ max 122 (rs.length + 1) → Q (.ref w') H'
def Cgt (H : Hp) (a : Ad) (x : Addr) (d : Int) : Prop := ∃ dx, H x = some (excVO x (.ref a.c_NoWeb) (some dx)) ∧ H dx = some (.xd [("road", .int d)])
theorem Cgt.same {H H' : Hp} {a : Ad} {x : Addr} {d : Int} (h : Cgt H a x d) (s : Same H H') : Cgt H' a x d := by
  obtain ⟨dx, h1, h2⟩ := h
  exact ⟨dx, s _ _ h1, s _ _ h2⟩
def spCaught (a : Ad) : Sp := fun vs H Q _ => ∃ (w rl : Addr) (ts : List Addr) (m : Int) (rs : List Road), vs = [.ref w] ∧ WebH H w rl ts m rs ∧ rs.length ≤ 200 ∧ (Good m rs → ∀ H', Same H H' → Q .non H') ∧ (∀ d, DueIs m rs d → ∀ (x : Addr) (H' : Hp), Same H H' → Cgt H' a x d → Q (.ref x) H')
def spClass (a : Ad) : Sp := fun vs H Q _ => ∃ (x : Addr) (d : Int), vs = [.ref x] ∧ Cgt H a x d ∧ ∀ H', Same H H' → Q (.int 0) H'
section
variable {P : Program} {w : World} {mg : Str → Option Value} {base : Heap}
variable {K : PySem.W.Frag} {H : Hp} {Q : VK} {a : Ad} {E : XK}
def t_is_whole (K : PySem.W.Frag) : TS :=
  (tRet (tAndV (tCB (rIsi K) (tCons (tVar 0) (tCons (tC (.ty "int")) tNil))) (tNotV (tCB (rIsi K) (tCons (tVar 0) (tCons (tC (.ty "bool")) tNil))))))
theorem rd_is_whole {x : Int} (q : Q (.bl true) H) : t_is_whole K { nx := fun _ H' => Q .non H', rt := Q } (L2.start ["thing"] [.int x]) H := by
  unfold t_is_whole
  simp_all only [tVar]
  refine isi_int_int ⟨_, rfl, iteT ?_⟩
  exact isi_int_bool ⟨_, rfl, q⟩
theorem sc_is_whole : FnScope ["thing"] ["thing"] (defScope s_is_whole) := ⟨rfl, rfl, rfl, by decide +kernel, rfl, by decide +kernel, by decide +kernel⟩
theorem ok_is_whole (T : Txt K mg a) : FnOk P w K mg base CX0 1 a.f_is_whole a.d_is_whole ["thing"] spWhole := by
  refine T.F_is_whole.ok sc_is_whole (fun vs H Q E h => ?_) (fun cdv A outer s H vs Q E hr h => ?_)
  · obtain ⟨x, rfl, q⟩ := h
    rfl
  obtain ⟨x, rfl, q⟩ := h
  exact ⟨t_is_whole K, (pss_one (ps_ret (pe_and (pe_callB call_isinst rfl T.z_isinstance PyProof.Rows.boot_isinstance (pa_cons (pv 0) (pa_cons (pe_bltn rfl T.z_int boot_int rfl) pa_nil))) (pe_one (pe_not (pe_callB call_isinst rfl T.z_isinstance PyProof.Rows.boot_isinstance (pa_cons (pv 0) (pa_cons (pe_bltn rfl T.z_bool boot_bool rfl) pa_nil)))))))),
    rd_is_whole q⟩
def t_is_within : TS :=
  (tRet (tAndV (tCall spWhole [] E0 (tCons (tVar 0) tNil)) (tChain (rI0 fun i j => .bl (decide (i ≤ j))) (rI0 fun i j => .bl (decide (i ≤ j))) (tVar 1) (tVar 0) (tVar 2))))
theorem rd_is_within {x l m : Int} (q : Q (.bl (decide (l ≤ x ∧ x ≤ m))) H) : t_is_within { nx := fun _ H' => Q .non H', rt := Q } (L2.start ["thing", "least", "most"] [.int x, .int l, .int m]) H := by
  unfold t_is_within
  simp_all only [tVar]
  refine ⟨x, rfl, true, rfl, iteT ?_⟩
  refine ite2 (fun c => ?_) (fun c => ?_)
  · rw [show decide (l ≤ x ∧ x ≤ m) = decide (x ≤ m) from by simp [c]] at q
    exact q
  · rw [show decide (l ≤ x ∧ x ≤ m) = false from by simp [c]] at q
    exact q
theorem sc_is_within : FnScope ["thing", "least", "most"] ["thing", "least", "most"] (defScope s_is_within) := ⟨rfl, rfl, rfl, by decide +kernel, rfl, by decide +kernel, by decide +kernel⟩
theorem ok_is_within (T : Txt K mg a) : FnOk P w K mg base CX0 2 a.f_is_within a.d_is_within ["thing", "least", "most"] spWithin := by
  have G_is_whole := ok_is_whole (P := P) (w := w) (base := base) T
  refine T.F_is_within.ok sc_is_within (fun vs H Q E h => ?_) (fun cdv A outer s H vs Q E hr h => ?_)
  · obtain ⟨x, l, m, rfl, q⟩ := h
    rfl
  obtain ⟨x, l, m, rfl, q⟩ := h
  exact ⟨t_is_within, (pss_one (ps_ret (pe_and (pe_call G_is_whole (hr.mono (by decide)) rfl T.m_is_whole T.F_is_whole.kp T.b_is_whole .nil pass0 (pa_cons (pv 0) pa_nil)) (pe_one (pe_chain op_le op_le (pv 1) (pv 0) (pv 2)))))),
    rd_is_within q⟩
def t_is_road_0 (K : PySem.W.Frag) : TS :=
  (tSeq (tAsg (tVar 0) (gTup K 3 (gCons (gName 2) (gCons (gName 3) (gCons (gName 4) gNil)))))
  (tRet (tAndV (tCall spWithin [] E0 (tCons (tVar 2) (tCons (tC (.int 0)) (tCons (tOp (rI0 fun i j => .int (i - j)) (tVar 1) (tC (.int 1))) tNil)))) (tAndV (tCall spWithin [] E0 (tCons (tVar 3) (tCons (tC (.int 0)) (tCons (tOp (rI0 fun i j => .int (i - j)) (tVar 1) (tC (.int 1))) tNil)))) (tAndV (tOp rNe (tVar 2) (tVar 3)) (tCall spWithin [] E0 (tCons (tVar 4) (tCons (tC (.int 1)) (tCons (tC (.int 1000000)) tNil)))))))))
theorem t_is_road_0_eq (K : PySem.W.Frag) (D : Ends) (σ : St) (H : Hp) : t_is_road_0 K D σ H = (tSeq (tAsg (tVar 0) (gTup K 3 (gCons (gName 2) (gCons (gName 3) (gCons (gName 4) gNil)))))
  (tRet (tAndV (tCall spWithin [] E0 (tCons (tVar 2) (tCons (tC (.int 0)) (tCons (tOp (rI0 fun i j => .int (i - j)) (tVar 1) (tC (.int 1))) tNil)))) (tAndV (tCall spWithin [] E0 (tCons (tVar 3) (tCons (tC (.int 0)) (tCons (tOp (rI0 fun i j => .int (i - j)) (tVar 1) (tC (.int 1))) tNil)))) (tAndV (tOp rNe (tVar 2) (tVar 3)) (tCall spWithin [] E0 (tCons (tVar 4) (tCons (tC (.int 1)) (tCons (tC (.int 1000000)) tNil))))))))) D σ H := rfl
def t_is_road_1 (K : PySem.W.Frag) : TS :=
  (tIfS (tOr (tNot (tB (tCB (rIsi K) (tCons (tVar 0) (tCons (tC (.ty "tuple")) tNil))))) (tTest (tOp rNe (tCB (fun xs H Q => ∃ p ys, xs = [.ref p] ∧ (SqL K H p ys ∨ SqT K H p ys) ∧ Q (.int ys.length) H) (tCons (tVar 0) tNil)) (tC (.int 3))))) (tRet (tC (.bl false))) tNext)
theorem t_is_road_1_eq (K : PySem.W.Frag) (D : Ends) (σ : St) (H : Hp) : t_is_road_1 K D σ H = (tIfS (tOr (tNot (tB (tCB (rIsi K) (tCons (tVar 0) (tCons (tC (.ty "tuple")) tNil))))) (tTest (tOp rNe (tCB (fun xs H Q => ∃ p ys, xs = [.ref p] ∧ (SqL K H p ys ∨ SqT K H p ys) ∧ Q (.int ys.length) H) (tCons (tVar 0) tNil)) (tC (.int 3))))) (tRet (tC (.bl false))) tNext) D σ H := rfl
def t_is_road (K : PySem.W.Frag) : TS :=
  (tSeq (tCut (t_is_road_1 K))
  (t_is_road_0 K))
theorem rd_is_road {t : Addr} {r : Road} {m : Int} (ht : H t = some (.tup (rdv r))) (q : Q (.bl (decide (GR m r))) H) : t_is_road K { nx := fun _ H' => Q .non H', rt := Q } (L2.start ["thing", "many", "a", "b", "length"] [.ref t, .int m]) H := by
  unfold t_is_road
  simp_all only [t_is_road_0_eq,t_is_road_1_eq,tVar]
  refine ⟨fun σ H' => H' = H ∧ σ = [some (.ref t), some (.int m), none, none, none], ?_, ?_⟩
  · simp_all only [t_is_road_0_eq,t_is_road_1_eq,tVar]
    refine isi_tup_tup ht ⟨true, rfl, ?_⟩
    refine ite2 (fun z => absurd z (by decide)) (fun _ => ?_)
    refine ⟨_, .inr (SqT.of ht), ?_⟩
    exact ite2 (fun z => absurd rfl z) (fun _ => rfl)
  · rintro σ H' ⟨e, rfl⟩
    rw [e]
    simp_all only [t_is_road_0_eq,t_is_road_1_eq,tVar]
    refine ⟨_, SqT.of ht, rfl, _, _, rfl, _, _, rfl, _, _, rfl, rfl, ?_⟩
    refine ⟨_, _, _, rfl, _, rfl, ite2 (fun c1 => ?_) (fun c1 => ?_)⟩
    · have c1 := of_decide_eq_true c1
      refine ⟨_, _, _, rfl, _, rfl, ite2 (fun c2 => ?_) (fun c2 => ?_)⟩
      · have c2 := of_decide_eq_true c2
        simp_all only [t_is_road_0_eq,t_is_road_1_eq,tVar]
        refine ite2 (fun c3 => ?_) (fun c3 => ?_)
        · refine ⟨_, _, _, rfl, ?_⟩
          rw [show decide (GR m r) = decide (1 ≤ r.2.2 ∧ r.2.2 ≤ 1000000) from decide_eq_decide.mpr ⟨fun z => z.2.2.2.2.2, fun z => ⟨by omega, by omega, by omega, by omega, c3, z⟩⟩] at q
          exact q
        · rw [decide_eq_false (p := GR m r) fun z => c3 z.2.2.2.2.1] at q
          exact q
      · rw [decide_eq_false (p := GR m r) fun z => c2 (decide_eq_true ⟨z.2.2.1, by have := z.2.2.2.1; omega⟩)] at q
        exact q
    · rw [decide_eq_false (p := GR m r) fun z => c1 (decide_eq_true ⟨z.1, by have := z.2.1; omega⟩)] at q
      exact q
theorem sc_is_road : FnScope ["thing", "many", "a", "b", "length"] ["thing", "many"] (defScope s_is_road) := ⟨rfl, rfl, rfl, by decide +kernel, rfl, by decide +kernel, by decide +kernel⟩
theorem ok_is_road (T : Txt K mg a) : FnOk P w K mg base CX0 3 a.f_is_road a.d_is_road ["thing", "many"] spIsRoad := by
  have G_is_within := ok_is_within (P := P) (w := w) (base := base) T
  refine T.F_is_road.ok sc_is_road (fun vs H Q E h => ?_) (fun cdv A outer s H vs Q E hr h => ?_)
  · obtain ⟨t, r, m, rfl, ht, q⟩ := h
    rfl
  obtain ⟨t, r, m, rfl, ht, q⟩ := h
  exact ⟨t_is_road K, (pss_cons (ps_cut (ps_if (PW.pt (pw_or (pt_not (pt_val (pe_callB call_isinst rfl T.z_isinstance PyProof.Rows.boot_isinstance (pa_cons (pv 0) (pa_cons (pe_bltn rfl T.z_tuple boot_tuple rfl) pa_nil))))) (pw_or1 (pt_cmpR op_ne (pe_callB call_len_seq rfl T.z_len PySem.boot_len (pa_cons (pv 0) pa_nil)) pe_int (nomark _))))) (pss_one (ps_ret pe_bl)) pss_nil))
  (pss_cons (ps_asg (pv 0) (pg_tup rfl (pgs_cons (pg_name (i := 2) sc_is_road.nd rfl (Or.inl rfl)) (pgs_cons (pg_name (i := 3) sc_is_road.nd rfl (Or.inl rfl)) (pgs_cons (pg_name (i := 4) sc_is_road.nd rfl (Or.inl rfl)) pgs_nil)))))
  (pss_one (ps_ret (pe_and (pe_call G_is_within (hr.mono (by decide)) rfl T.m_is_within T.F_is_within.kp T.b_is_within .nil pass0 (pa_cons (pv 2) (pa_cons pe_int (pa_cons (pe_op op_sub (pv 1) pe_int) pa_nil)))) (pe_and (pe_call G_is_within (hr.mono (by decide)) rfl T.m_is_within T.F_is_within.kp T.b_is_within .nil pass0 (pa_cons (pv 3) (pa_cons pe_int (pa_cons (pe_op op_sub (pv 1) pe_int) pa_nil)))) (pe_and (pe_cmpR op_ne (pv 2) (pv 3) (nomark _)) (pe_one (pe_call G_is_within (hr.mono (by decide)) rfl T.m_is_within T.F_is_within.kp T.b_is_within .nil pass0 (pa_cons (pv 4) (pa_cons pe_int (pa_cons (pe_glob rfl T.m_MOST_LENGTH ⟨_, rfl⟩) pa_nil)))))))))))),
    rd_is_road ht q⟩
theorem nodup_len {α : Type} [DecidableEq α] : ∀ (a b : List α), a.Nodup → (∀ x ∈ a, x ∈ b) → a.length ≤ b.length
  | [], b, _, _ => Nat.zero_le _
  | x :: a, b, nd, h => by
    obtain ⟨n1, n2⟩ := List.nodup_cons.mp nd
    have hx := h x (by simp)
    have ih := nodup_len a (b.erase x) n2 fun y hy => (List.mem_erase_of_ne fun (e : y = x) => n1 (e ▸ hy)).mpr (h y (by simp [hy]))
    rw [List.length_erase_of_mem hx] at ih
    have := List.length_pos_of_mem hx
    rw [List.length_cons]
    omega
def Dm (kvs : List (Key × V)) (x : Int) : Prop := valV kvs (.inl x) ≠ none
def keysOf {κ : Type} (kvs : List (κ × V)) : List κ := kvs.map (·.1)
theorem val_mem {κ : Type} [DecidableEq κ] (kvs : List (κ × V)) (k : κ) : valV kvs k ≠ none ↔ k ∈ keysOf kvs := by
  induction kvs with
  | nil => simp [valV, keysOf]
  | cons p r ih =>
    by_cases e : p.1 = k
    · rw [valV_pos e]
      simp [keysOf, e]
    · rw [valV_neg e, ih]
      unfold keysOf
      rw [List.map_cons, List.mem_cons]
      exact ⟨.inr, fun h => h.resolve_left fun z => e z.symm⟩
theorem keys_put {κ : Type} [DecidableEq κ] (kvs : List (κ × V)) (k : κ) (v : V) : keysOf (putK kvs k v) = if valV kvs k = none then keysOf kvs ++ [k] else keysOf kvs := by
  by_cases c : valV kvs k = none
  · rw [if_pos c, putK_new v c]
    simp [keysOf]
  · rw [if_neg c]
    unfold putK
    rw [valV_any, if_pos (Option.isSome_iff_ne_none.mpr c)]
    unfold keysOf
    rw [List.map_map]
    refine List.map_congr_left fun p _ => ?_
    simp only [Function.comp]
    split <;> rfl
theorem keys_len {κ : Type} (kvs : List (κ × V)) : (keysOf kvs).length = kvs.length := List.length_map ..
theorem put_len {κ : Type} [DecidableEq κ] (kvs : List (κ × V)) (k : κ) (v : V) : (putK kvs k v).length = if valV kvs k = none then kvs.length + 1 else kvs.length := by
  rw [← keys_len, keys_put]
  split
  · rw [List.length_append, keys_len]
    rfl
  · rw [keys_len]
theorem dm_put (kvs : List (Key × V)) (y x : Int) (v : V) : Dm (putK kvs (.inl y) v) x ↔ x = y ∨ Dm kvs x := by
  unfold Dm
  rw [valV_put]
  by_cases e : x = y
  · subst e
    simp
  · rw [if_neg fun z => e (Sum.inl.inj z)]
    exact ⟨.inr, fun h => h.resolve_left e⟩
def Clo (rs : List Road) (S : Int → Prop) : Prop := ∀ r ∈ rs, S r.1 ∨ S r.2.1 → S r.1 ∧ S r.2.1
structure Cm (m : Int) (rs : List Road) (kvs : List (Key × V)) : Prop where
  nd : (keysOf kvs).Nodup
  inR : ∀ k ∈ keysOf kvs, ∃ x : Int, k = .inl x ∧ 0 ≤ x ∧ x < m
  zero : Dm kvs 0
  least : ∀ S : Int → Prop, S 0 → Clo rs S → ∀ x, Dm kvs x → S x
theorem Cm.put {m : Int} {rs : List Road} {kvs : List (Key × V)} (h : Cm m rs kvs) {y : Int} (v : V) (y0 : 0 ≤ y) (y1 : y < m) (hy : ∀ S : Int → Prop, S 0 → Clo rs S → S y) : Cm m rs (putK kvs (.inl y) v) := by
  refine ⟨?_, ?_, (dm_put ..).mpr (.inr h.zero), fun S s0 sc x hx => ?_⟩
  · rw [keys_put]
    split
    · rename_i c
      refine List.nodup_append.mpr ⟨h.nd, by simp, fun a ha b hb e => ?_⟩
      have : b = .inl y := by simpa using hb
      subst this
      subst e
      exact (val_mem ..).mpr ha c
    · exact h.nd
  · rw [keys_put]
    split
    · intro k hk
      rcases List.mem_append.mp hk with z | z
      · exact h.inR k z
      · exact ⟨y, by simpa using z, y0, y1⟩
    · exact h.inR
  · rcases (dm_put ..).mp hx with rfl | z
    · exact hy S s0 sc
    · exact h.least S s0 sc x z
theorem Cm.le {m : Int} {rs : List Road} {kvs : List (Key × V)} (h : Cm m rs kvs) (m0 : 0 ≤ m) : (kvs.length : Int) ≤ m := by
  have := nodup_len (keysOf kvs) ((List.range m.toNat).map fun k : Nat => (Sum.inl (k : Int) : Key)) h.nd fun k hk => by
    obtain ⟨x, rfl, x0, x1⟩ := h.inR k hk
    exact List.mem_map.mpr ⟨x.toNat, List.mem_range.mpr (by omega), by rw [Int.toNat_of_nonneg x0]⟩
  rw [keys_len, List.length_map, List.length_range] at this
  omega
theorem Cm.all {m : Int} {rs : List Road} {kvs : List (Key × V)} (h : Cm m rs kvs) (m0 : 0 ≤ m) : m ≤ (kvs.length : Int) ↔ ∀ x, 0 ≤ x → x < m → Dm kvs x := by
  constructor
  · intro hl x x0 x1
    refine Classical.byContradiction fun c => ?_
    have hx : (Sum.inl x : Key) ∉ keysOf kvs := fun z => c ((val_mem ..).mpr z)
    have := nodup_len (Sum.inl x :: keysOf kvs) ((List.range m.toNat).map fun k : Nat => (Sum.inl (k : Int) : Key)) (List.nodup_cons.mpr ⟨hx, h.nd⟩) fun k hk => by
      have : ∃ y : Int, k = .inl y ∧ 0 ≤ y ∧ y < m := by
        rcases List.mem_cons.mp hk with z | z
        · exact ⟨x, z, x0, x1⟩
        · exact h.inR k z
      obtain ⟨y, rfl, y0, y1⟩ := this
      exact List.mem_map.mpr ⟨y.toNat, List.mem_range.mpr (by omega), by rw [Int.toNat_of_nonneg y0]⟩
    rw [List.length_cons, keys_len, List.length_map, List.length_range] at this
    omega
  · intro hx
    have := nodup_len ((List.range m.toNat).map fun k : Nat => (Sum.inl (k : Int) : Key)) (keysOf kvs) ?_ fun k hk => ?_
    · rw [keys_len, List.length_map, List.length_range] at this
      omega
    · refine List.nodup_iff_pairwise_ne.mpr (List.pairwise_map.mpr ((List.nodup_iff_pairwise_ne.mp List.nodup_range).imp fun h e => h ?_))
      have := Sum.inl.inj e
      omega
    · obtain ⟨x, hx1, rfl⟩ := List.mem_map.mp hk
      have := List.mem_range.mp hx1
      exact (val_mem ..).mp (hx x (by omega) (by omega))
theorem Cm.conn {m : Int} {rs : List Road} {kvs : List (Key × V)} (h : Cm m rs kvs) (m0 : 0 ≤ m) (c : Clo rs (Dm kvs)) : m ≤ (kvs.length : Int) ↔ Conn m rs := by
  rw [h.all m0]
  exact ⟨fun z S s0 sc x x0 x1 => h.least S s0 sc x (z x x0 x1), fun z x x0 x1 => z (Dm kvs) h.zero c x x0 x1⟩
def t_places_come_to_0 : TS :=
  (tIfS (tOr (tB (tDIn (tVar 3) (tVar 1))) (tB (tDIn (tVar 4) (tVar 1)))) (tSeq (sDPut (tVar 1) (tVar 3) (tC (.bl true)))
  (sDPut (tVar 1) (tVar 4) (tC (.bl true)))) tNext)
theorem t_places_come_to_0_eq (D : Ends) (σ : St) (H : Hp) : t_places_come_to_0 D σ H = (tIfS (tOr (tB (tDIn (tVar 3) (tVar 1))) (tB (tDIn (tVar 4) (tVar 1)))) (tSeq (sDPut (tVar 1) (tVar 3) (tC (.bl true)))
  (sDPut (tVar 1) (tVar 4) (tC (.bl true)))) tNext) D σ H := rfl
def t_places_come_to_1 (K : PySem.W.Frag) : TS :=
  (tSeq (tAsg (tCB rLenD (tCons (tVar 1) tNil)) (gName 2))
  (tFor (iList K (tVar 0)) (gTup K 3 (gCons (gName 3) (gCons (gName 4) (gCons (gName 5) gNil))))
  (t_places_come_to_0)))
theorem t_places_come_to_1_eq (K : PySem.W.Frag) (D : Ends) (σ : St) (H : Hp) : t_places_come_to_1 K D σ H = (tSeq (tAsg (tCB rLenD (tCons (tVar 1) tNil)) (gName 2))
  (tFor (iList K (tVar 0)) (gTup K 3 (gCons (gName 3) (gCons (gName 4) (gCons (gName 5) gNil))))
  (t_places_come_to_0))) D σ H := rfl
def t_places_come_to (K : PySem.W.Frag) : TS :=
  (tSeq (tAsg (tDisp (((tC (.int 0)), (tC (.bl true))) :: [])) (gName 1))
  (tSeq (tAsg (tC (.int 0)) (gName 2))
  (tSeq (tWhile (tTest (tOp (rI0 fun i j => .bl (decide (i < j))) (tVar 2) (tCB rLenD (tCons (tVar 1) tNil)))) (t_places_come_to_1 K))
  (tRet (tVar 1)))))
theorem rd_places_come_to {rl : Addr} {ts : List Addr} {rs : List Road} {m : Int} (hl : H rl = some (.lst (ts.map V.ref))) (ht : Tps rdv H ts rs) (m1 : 1 ≤ m) (m60 : m ≤ 60) (gr : ∀ r ∈ rs, GR m r)
    (q : ∀ (d : Addr) (kvs : List (Key × V)) (H' : Hp), Same H H' → H' d = some (.dK kvs) → (m ≤ (kvs.length : Int) ↔ Conn m rs) → Q (.ref d) H') :
    t_places_come_to K { nx := fun _ H' => Q .non H', rt := Q } (L2.start ["roads", "come", "before", "a", "b", "length"] [.ref rl]) H := by
  unfold t_places_come_to
  simp_all only [t_places_come_to_0_eq,t_places_come_to_1_eq,tVar]
  refine fun d hd => ⟨upd_same, [(.inl 0, .bl true)], rfl, by decide, ?_⟩
  refine while_W (m := 100) (fun n σ H' => ∃ (kvs : List (Key × V)) (bf : Int) (x y z : Option V), σ = [some (.ref rl), some (.ref d), some (.int bf), x, y, z] ∧ Same H H' ∧ H' d = some (.dK kvs) ∧ Cm m rs kvs ∧ 0 ≤ bf ∧ bf ≤ (kvs.length : Int) ∧ (bf = (kvs.length : Int) → Clo rs (Dm kvs)) ∧ n = (100 - bf).toNat) ?_ ?_
  · refine ⟨[(.inl 0, .bl true)], 0, _, _, _, rfl, ?_, upd_same, ⟨by decide, ?_, (fun z => nomatch z), fun S s0 _ x hx => ?_⟩, by decide, by decide, (fun z => absurd z (by decide)), by decide⟩
    · rw [upd_upd]
      exact same_new hd _
    · intro k hk
      have : k = .inl 0 := by simpa [keysOf] using hk
      exact ⟨0, this, by decide, by omega⟩
    · have : x = 0 := by
        refine Classical.byContradiction fun c => hx ?_
        exact valV_neg (p := (Sum.inl 0, V.bl true)) fun z => c (Sum.inl.inj z).symm
      subst this
      exact s0
  · rintro n σ H1 ⟨kvs, bf, x, y, z, rfl, s1, h1, C, b0, b1, bc, rfl⟩
    simp_all only [t_places_come_to_0_eq,t_places_come_to_1_eq,tVar]
    refine ⟨_, h1, ?_⟩
    have hle := C.le (by omega)
    refine ite2 (fun c => ?_) (fun c => ?_)
    · refine ⟨_, fun _ _ h => h, _, h1, ?_⟩
      refine ⟨⟨_, SqL.of (s1 _ _ hl)⟩, ?_⟩
      refine for_listF (K := K) (xs := ts.map V.ref) (fun i σ H' => ∃ (kv : List (Key × V)) (x y z : Option V), σ = [some (.ref rl), some (.ref d), some (.int kvs.length), x, y, z] ∧ Same H H' ∧ H' d = some (.dK kv) ∧ Cm m rs kv ∧ kvs.length ≤ kv.length ∧ (kv.length = kvs.length → Clo (rs.take i) (Dm kv))) ⟨kvs, _, _, _, rfl, s1, h1, C, Nat.le_refl _, fun _ r hr => by simp at hr⟩ ?_ ?_ ?_
      · rintro i σ H' _ ⟨kv, x, y, z, rfl, s, _⟩
        exact SqL.of (s _ _ hl)
      · rintro i t σ H2 hx ⟨kv, x, y, z, rfl, s2, h2, C2, l2, c2⟩
        obtain ⟨t, et, rfl⟩ := map_at hx
        obtain ⟨r, er, hr0⟩ := ht.at et
        have hr2 := s2 _ _ hr0
        have gr' := gr r (mem_at er)
        have mr := mem_at er
        have stepc : ∀ {kv' : List (Key × V)}, (∀ x, Dm kv' x ↔ Dm kv x) → kv.length = kvs.length → (Dm kv r.1 ∨ Dm kv r.2.1 → Dm kv r.1 ∧ Dm kv r.2.1) → Clo (rs.take (i + 1)) (Dm kv') := by
          intro kv' e el hr' r' hr1
          rw [List.take_add_one, er] at hr1
          rw [e, e]
          rcases List.mem_append.mp hr1 with w | w
          · exact c2 el r' w
          · have : r' = r := by simpa using w
            subst this
            exact hr'
        simp_all only [t_places_come_to_0_eq,t_places_come_to_1_eq,tVar]
        refine ⟨_, SqT.of hr2, rfl, _, _, rfl, _, _, rfl, _, _, rfl, rfl, ?_⟩
        refine ⟨_, DGet.k (k := .inl r.1) h2, ?_⟩
        have yes : Dm kv r.1 ∨ Dm kv r.2.1 → ∀ (H3 : Hp), H3 = H2 → ∃ (H4 : Hp), DPut H3 d (.int r.1) (.bl true) H4 ∧ ∃ (H5 : Hp), DPut H4 d (.int r.2.1) (.bl true) H5 ∧ Same H H5 ∧ ∃ (kv : List (Key × V)), H5 d = some (.dK kv) ∧ Cm m rs kv ∧ kvs.length ≤ kv.length ∧ (kv.length = kvs.length → Clo (rs.take (i + 1)) (Dm kv)) := by
          rintro hor H3 rfl
          have hS : ∀ S : Int → Prop, S 0 → Clo rs S → S r.1 ∧ S r.2.1 := fun S s0 sc => sc r mr (hor.imp (C2.least S s0 sc _) (C2.least S s0 sc _))
          have C3 := C2.put (.bl true) gr'.1 gr'.2.1 fun S s0 sc => (hS S s0 sc).1
          have C4 := C3.put (.bl true) gr'.2.2.1 gr'.2.2.2.1 fun S s0 sc => (hS S s0 sc).2
          have le2 := C2.le (by omega)
          have le3 := C3.le (by omega)
          have big : (100 : Nat) < sizeLine := by decide
          have e3 := put_len kv (.inl r.1) (.bl true)
          have e4 := put_len (putK kv (.inl r.1) (.bl true)) (.inl r.2.1) (.bl true)
          refine ⟨_, DPut.k (k := .inl r.1) h2 (by omega), _, DPut.k (k := .inl r.2.1) upd_same (by omega), ?_, _, upd_same, C4, ?_, fun el => ?_⟩
          · exact (s2.put hd).put hd
          · rw [e4, e3]
            split <;> split <;> omega
          · have k3 : valV kv (.inl r.1) ≠ none := fun z => by
              rw [if_pos z] at e3
              rw [el] at e4
              split at e4 <;> omega
            rw [if_neg k3] at e3
            have k4 : valV (putK kv (.inl r.1) (.bl true)) (.inl r.2.1) ≠ none := fun z => by
              rw [if_pos z, el] at e4
              omega
            have d4 : Dm kv r.2.1 := by
              have := (dm_put kv r.1 r.2.1 (.bl true)).mp k4
              rcases this with z | z
              · exact absurd z.symm gr'.2.2.2.2.1
              · exact z
            refine stepc (fun x => ?_) ?_ fun _ => ⟨k3, d4⟩
            · rw [dm_put, dm_put]
              exact ⟨fun z => z.elim (fun e => by rw [e]; exact d4) (fun z => z.elim (fun e => by rw [e]; exact k3) id), fun z => .inr (.inr z)⟩
            · rw [if_neg k4, el] at e4
              omega
        refine ite2 (fun c3 => ?_) (fun c3 => ?_)
        · exact yes (.inl (Option.isSome_iff_ne_none.mp c3)) H2 rfl
        refine ⟨_, DGet.k (k := .inl r.2.1) h2, ?_⟩
        refine ite2 (fun c4 => ?_) (fun c4 => ?_)
        · exact yes (.inr (Option.isSome_iff_ne_none.mp c4)) H2 rfl
        refine ⟨s2, kv, h2, C2, l2, fun el => stepc (fun _ => Iff.rfl) el fun z => ?_⟩
        exact (z.elim (fun z => c3 (Option.isSome_iff_ne_none.mpr z)) (fun z => c4 (Option.isSome_iff_ne_none.mpr z))).elim
      · rintro σ H2 ⟨kv, x, y, z, rfl, s2, h2, C2, l2, c2⟩
        have e : (rs.take (ts.map V.ref).length) = rs := List.take_of_length_le (by rw [List.length_map, ht.1]; exact Nat.le_refl _)
        rw [e] at c2
        refine ⟨_, ?_, kv, _, _, _, _, rfl, s2, h2, C2, by omega, by omega, fun z => c2 (by omega), rfl⟩
        omega
    · refine q d kvs H1 s1 h1 (C.conn (by omega) (bc (by omega)))
theorem sc_places_come_to : FnScope ["roads", "come", "before", "a", "b", "length"] ["roads"] (defScope s_places_come_to) := ⟨rfl, rfl, rfl, by decide +kernel, rfl, by decide +kernel, by decide +kernel⟩
theorem ok_places_come_to (T : Txt K mg a) : FnOk P w K mg base CX0 1 a.f_places_come_to a.d_places_come_to ["roads"] spCome := by
  refine T.F_places_come_to.ok sc_places_come_to (fun vs H Q E h => ?_) (fun cdv A outer s H vs Q E hr h => ?_)
  · obtain ⟨rl, ts, rs, m, rfl, hl, ht, m1, m60, gr, q⟩ := h
    rfl
  obtain ⟨rl, ts, rs, m, rfl, hl, ht, m1, m60, gr, q⟩ := h
  exact ⟨t_places_come_to K, (pss_cons (ps_set (i := 1) sc_places_come_to.nd rfl (Or.inl rfl) (pe_disp (pps_cons pe_int pe_bl pps_nil) rfl rfl (fun z => nomatch z) (by decide)))
  (pss_cons (ps_set (i := 2) sc_places_come_to.nd rfl (Or.inl rfl) pe_int)
  (pss_cons (ps_while PassesOwn.never (pt_cmpR op_lt (pv 2) (pe_callB call_lenD rfl T.z_len PySem.boot_len (pa_cons (pv 1) pa_nil)) (nomark _)) (pss_cons (ps_set (i := 2) sc_places_come_to.nd rfl (Or.inl rfl) (pe_callB call_lenD rfl T.z_len PySem.boot_len (pa_cons (pv 1) pa_nil)))
  (pss_one (ps_for PassesOwn.never rfl (pi_list (pv 0)) (pg_tup rfl (pgs_cons (pg_name (i := 3) sc_places_come_to.nd rfl (Or.inl rfl)) (pgs_cons (pg_name (i := 4) sc_places_come_to.nd rfl (Or.inl rfl)) (pgs_cons (pg_name (i := 5) sc_places_come_to.nd rfl (Or.inl rfl)) pgs_nil))))
  (pss_one (ps_if (PW.pt (pw_or (pt_cmp (pc_din (hu_of hr) (pv 3) (pv 1))) (pw_or1 (pt_cmp (pc_din (hu_of hr) (pv 4) (pv 1)))))) (pss_cons (ps_dput (hu_of hr) (pv 1) (pv 3) pe_bl rfl)
  (pss_one (ps_dput (hu_of hr) (pv 1) (pv 4) pe_bl rfl))) pss_nil))))))
  (pss_one (ps_ret (pv 1)))))),
    rd_places_come_to hl ht m1 m60 gr q⟩
theorem sci_NoWeb : FnScope ["self", "road"] ["self", "road"] (defScope si_NoWeb) := ⟨rfl, rfl, rfl, by decide +kernel, rfl, by decide +kernel, by decide +kernel⟩
theorem ok_init_NoWeb (T : Txt K mg a) : FnOk P w K mg base CX0 1 a.i_NoWeb a.j_NoWeb ["self", "road"] (spInit a.c_NoWeb "road") := by
  refine T.I_NoWeb.ok sci_NoWeb (fun vs H Q E h => ?_) (fun cdv A outer s H vs Q E hr h => ?_)
  · obtain ⟨y, v, rfl, hy, q⟩ := h
    rfl
  obtain ⟨y, v, rfl, hy, q⟩ := h
  exact ⟨_, (pss_cons (ps_expr (pe_baseInit rfl T.m_HideError T.B (pa_cons (pv 0) (pa_cons (pv 1) pa_nil)))) (pss_one (ps_fldX (pv 0) (pv 1) rfl))), rd_init T.X_NoWeb T.xa_NoWeb.na hy q⟩
def t_look_web_0 (K : PySem.W.Frag) (a : Ad) (E : XK) : TS :=
  (tIfS (tOr (tNot (tTest (tChain (rI0 fun i j => .bl (decide (i ≤ j))) (rI0 fun i j => .bl (decide (i ≤ j))) (tC (.int 1)) (tVar 1) (tC (.int 60))))) (tOr (tTest (tOp (rI0 fun i j => .bl (decide (j < i))) (tCB (fun xs H Q => ∃ p ys, xs = [.ref p] ∧ (SqL K H p ys ∨ SqT K H p ys) ∧ Q (.int ys.length) H) (tCons (tVar 2) tNil)) (tC (.int 120)))) (tTest (tOp (rI0 fun i j => .bl (decide (i < j))) (tCB rLenD (tCons (tCall spCome [] E0 (tCons (tVar 2) tNil)) tNil)) (tVar 1))))) (tRaiseV a.c_NoWeb "road" E (tCons (tUn (rU fun i => .int (-i)) (tC (.int 1))) tNil)) tNext)
theorem t_look_web_0_eq (K : PySem.W.Frag) (a : Ad) (E : XK) (D : Ends) (σ : St) (H : Hp) : t_look_web_0 K a E D σ H = (tIfS (tOr (tNot (tTest (tChain (rI0 fun i j => .bl (decide (i ≤ j))) (rI0 fun i j => .bl (decide (i ≤ j))) (tC (.int 1)) (tVar 1) (tC (.int 60))))) (tOr (tTest (tOp (rI0 fun i j => .bl (decide (j < i))) (tCB (fun xs H Q => ∃ p ys, xs = [.ref p] ∧ (SqL K H p ys ∨ SqT K H p ys) ∧ Q (.int ys.length) H) (tCons (tVar 2) tNil)) (tC (.int 120)))) (tTest (tOp (rI0 fun i j => .bl (decide (i < j))) (tCB rLenD (tCons (tCall spCome [] E0 (tCons (tVar 2) tNil)) tNil)) (tVar 1))))) (tRaiseV a.c_NoWeb "road" E (tCons (tUn (rU fun i => .int (-i)) (tC (.int 1))) tNil)) tNext) D σ H := rfl
def t_look_web_1 (K : PySem.W.Frag) (a : Ad) (E : XK) : TS :=
  (tSeq (tAsg (tVar 0) (gTup K 2 (gCons (gName 1) (gCons (gName 2) gNil))))
  (tSeq (tFor (iEnum K (tCons (tVar 2) tNil)) (gTup K 2 (gCons (gName 3) (gCons (gName 4) gNil)))
  (tIfS (tNot (tB (tCall spIsRoad [] E0 (tCons (tVar 4) (tCons (tVar 1) tNil))))) (tRaiseV a.c_NoWeb "road" E (tCons (tVar 3) tNil)) tNext))
  (t_look_web_0 K a E)))
theorem t_look_web_1_eq (K : PySem.W.Frag) (a : Ad) (E : XK) (D : Ends) (σ : St) (H : Hp) : t_look_web_1 K a E D σ H = (tSeq (tAsg (tVar 0) (gTup K 2 (gCons (gName 1) (gCons (gName 2) gNil))))
  (tSeq (tFor (iEnum K (tCons (tVar 2) tNil)) (gTup K 2 (gCons (gName 3) (gCons (gName 4) gNil)))
  (tIfS (tNot (tB (tCall spIsRoad [] E0 (tCons (tVar 4) (tCons (tVar 1) tNil))))) (tRaiseV a.c_NoWeb "road" E (tCons (tVar 3) tNil)) tNext))
  (t_look_web_0 K a E))) D σ H := rfl
def t_look_web_2 (K : PySem.W.Frag) (a : Ad) (E : XK) : TS :=
  (tIfS (tOr (tNot (tB (tCB (rIsi K) (tCons (tVar 0) (tCons (tC (.ty "tuple")) tNil))))) (tOr (tTest (tOp rNe (tCB (fun xs H Q => ∃ p ys, xs = [.ref p] ∧ (SqL K H p ys ∨ SqT K H p ys) ∧ Q (.int ys.length) H) (tCons (tVar 0) tNil)) (tC (.int 2)))) (tOr (tNot (tB (tCall spWhole [] E0 (tCons (tOp (rIxT K) (tVar 0) (tC (.int 0))) tNil)))) (tNot (tB (tCB (rIsi K) (tCons (tOp (rIxT K) (tVar 0) (tC (.int 1))) (tCons (tC (.ty "list")) tNil)))))))) (tRaiseV a.c_NoWeb "road" E (tCons (tUn (rU fun i => .int (-i)) (tC (.int 1))) tNil)) tNext)
theorem t_look_web_2_eq (K : PySem.W.Frag) (a : Ad) (E : XK) (D : Ends) (σ : St) (H : Hp) : t_look_web_2 K a E D σ H = (tIfS (tOr (tNot (tB (tCB (rIsi K) (tCons (tVar 0) (tCons (tC (.ty "tuple")) tNil))))) (tOr (tTest (tOp rNe (tCB (fun xs H Q => ∃ p ys, xs = [.ref p] ∧ (SqL K H p ys ∨ SqT K H p ys) ∧ Q (.int ys.length) H) (tCons (tVar 0) tNil)) (tC (.int 2)))) (tOr (tNot (tB (tCall spWhole [] E0 (tCons (tOp (rIxT K) (tVar 0) (tC (.int 0))) tNil)))) (tNot (tB (tCB (rIsi K) (tCons (tOp (rIxT K) (tVar 0) (tC (.int 1))) (tCons (tC (.ty "list")) tNil)))))))) (tRaiseV a.c_NoWeb "road" E (tCons (tUn (rU fun i => .int (-i)) (tC (.int 1))) tNil)) tNext) D σ H := rfl
def t_look_web (K : PySem.W.Frag) (a : Ad) (E : XK) : TS :=
  (tSeq (tCut (t_look_web_2 K a E))
  (t_look_web_1 K a E))
theorem rd_look_web {w rl : Addr} {ts : List Addr} {m : Int} {rs : List Road} (W : WebH H w rl ts m rs) (l200 : rs.length ≤ 200) (q : Good m rs → ∀ H', Same H H' → Q .non H') (e : ∀ d, DueIs m rs d → ∀ (dx : Addr) (H' : Hp), Same H H' → H' dx = none → E (.ref a.c_NoWeb) (some dx) (L2.upd H' dx (.xd [("road", .int d)]))) :
    t_look_web K a E { nx := fun _ H' => Q .non H', rt := Q } (L2.start ["web", "many", "roads", "k", "road"] [.ref w]) H := by
  unfold t_look_web
  simp_all only [t_look_web_0_eq,t_look_web_1_eq,t_look_web_2_eq,tVar]
  refine ⟨fun σ H' => H' = H ∧ σ = [some (.ref w), none, none, none, none], ?_, ?_⟩
  · simp_all only [t_look_web_0_eq,t_look_web_1_eq,t_look_web_2_eq,tVar]
    refine isi_tup_tup W.hw ⟨true, rfl, ?_⟩
    refine ite2 (fun z => absurd z (by decide)) (fun _ => ?_)
    refine ⟨_, .inr (SqT.of W.hw), ?_⟩
    refine ite2 (fun z => absurd rfl z) (fun _ => ?_)
    refine ⟨_, SqT.of W.hw, _, rfl, m, rfl, true, rfl, ?_⟩
    refine ite2 (fun z => absurd z (by decide)) (fun _ => ?_)
    refine ⟨_, SqT.of W.hw, _, rfl, isi_lst_lst W.hl ⟨true, rfl, ?_⟩⟩
    exact ite2 (fun z => absurd z (by decide)) (fun _ => rfl)
  · rintro σ H' ⟨e', rfl⟩
    rw [e']
    simp_all only [t_look_web_0_eq,t_look_web_1_eq,t_look_web_2_eq,tVar]
    refine ⟨_, SqT.of W.hw, rfl, _, _, rfl, _, _, rfl, rfl, ?_⟩
    refine ⟨_, rfl, ⟨_, SqL.of W.hl⟩, ?_⟩
    refine for_enumF (K := K) (xs := ts.map V.ref) (fun i σ H' => Same H H' ∧ (∀ (j : Nat) r, j < i → rs[j]? = some r → GR m r) ∧ ∃ x y, σ = [some (.ref w), some (.int m), some (.ref rl), x, y]) ⟨.refl _, fun j r hj => by omega, _, _, rfl⟩ ?_ ?_ ?_
    · rintro i σ H' _ ⟨s, _⟩
      exact SqL.of (s _ _ W.hl)
    · rintro i t u σ H1 hx ⟨s, hg, x, y, rfl⟩ hu
      obtain ⟨t, et, rfl⟩ := map_at hx
      obtain ⟨r, er, hr0⟩ := W.ht.at et
      simp_all only [t_look_web_0_eq,t_look_web_1_eq,t_look_web_2_eq,tVar]
      refine ⟨_, SqT.of upd_same, rfl, _, _, rfl, _, _, rfl, rfl, ?_⟩
      have s2 := s.add hu (o := .tup [.int (i : Int), .ref t])
      refine ⟨t, r, m, rfl, s2 _ _ hr0, ?_⟩
      by_cases c : GR m r
      · rw [decide_eq_true c]
        refine ⟨true, rfl, ite2 (fun z => absurd z (by decide)) (fun _ => ⟨s2, fun j q hj hq => ?_⟩)⟩
        rcases Nat.lt_or_eq_of_le (Nat.lt_succ_iff.mp hj) with h | h
        · exact hg j q h hq
        · rw [h, er] at hq
          cases hq
          exact c
      · rw [decide_eq_false c]
        refine ⟨false, rfl, ite2 (fun _ => ?_) (fun z => absurd rfl z)⟩
        exact fun dx hd => e _ (.inl ⟨i, badAt_at er c hg, rfl⟩) dx _ s2 hd
    · rintro σ H1 ⟨s, hg, x, y, rfl⟩
      rw [List.length_map, W.ht.1] at hg
      have gr : ∀ r ∈ rs, GR m r := fun r hr => by
        obtain ⟨j, hj, e⟩ := List.mem_iff_getElem.mp hr
        exact hg j r hj (by rw [List.getElem?_eq_getElem hj, e])
      have bn := badAt_none gr
      simp_all only [t_look_web_0_eq,t_look_web_1_eq,t_look_web_2_eq,tVar]
      have no : ¬ (1 ≤ m ∧ m ≤ 60 ∧ rs.length ≤ 120 ∧ Conn m rs) → ∀ H2, Same H H2 → ∀ (dx : Addr), H2 dx = none → E (Value.ref a.c_NoWeb) (some dx) (L2.upd H2 dx (HO.xd [("road", V.int (-1))])) := fun n H2 s2 dx hd => e _ (.inr ⟨bn, n, rfl⟩) dx H2 s2 hd
      refine ite2 (fun m1 => ?_) (fun z => no (fun n => z n.1) _ s)
      refine ite2 (fun z => no (fun n => z n.2.1) _ s) (fun z => ?_)
      have m60 : m ≤ 60 := Decidable.not_not.mp z
      refine ⟨_, .inl (SqL.of (s _ _ W.hl)), ?_⟩
      rw [List.length_map, W.ht.1]
      refine ite2 (fun z => no (fun n => by have := n.2.2.1; omega) _ s) (fun z => ?_)
      refine ⟨rl, ts, rs, m, rfl, s _ _ W.hl, W.ht.same s, m1, m60, gr, fun d kvs H2 s2 h2 hc => ?_⟩
      refine ⟨_, rfl, kvs, h2, ite2 (fun y => no (fun n => ?_) _ (s.trans s2)) (fun y => q ⟨bn, m1, m60, by omega, hc.mp (by omega)⟩ _ (s.trans s2))⟩
      have := hc.mpr n.2.2.2
      omega
theorem sc_look_web : FnScope ["web", "many", "roads", "k", "road"] ["web"] (defScope s_look_web) := ⟨rfl, rfl, rfl, by decide +kernel, rfl, by decide +kernel, by decide +kernel⟩
theorem ok_look_web (T : Txt K mg a) : FnOk P w K mg base (CXV P w) 5 a.f_look_web a.d_look_web ["web"] (spLookWebX a) := by
  have G_is_road := ok_is_road (P := P) (w := w) (base := base) T
  have G_is_whole := ok_is_whole (P := P) (w := w) (base := base) T
  have G_places_come_to := ok_places_come_to (P := P) (w := w) (base := base) T
  have G__NoWeb := ok_init_NoWeb (P := P) (w := w) (base := base) T
  refine T.F_look_web.okV sc_look_web (fun vs H Q E h => ?_) (fun cdv A outer s H vs Q E hr h => ?_)
  · obtain ⟨w', rl, ts, m, rs, rfl, W, l200, q, e⟩ := h
    rfl
  obtain ⟨w', rl, ts, m, rs, rfl, W, l200, q, e⟩ := h
  exact ⟨t_look_web K a E, (pss_cons (ps_cut (ps_if (PW.pt (pw_or (pt_not (pt_val (pe_callB call_isinst rfl T.z_isinstance PyProof.Rows.boot_isinstance (pa_cons (pv 0) (pa_cons (pe_bltn rfl T.z_tuple boot_tuple rfl) pa_nil))))) (pw_or (pt_cmpR op_ne (pe_callB call_len_seq rfl T.z_len PySem.boot_len (pa_cons (pv 0) pa_nil)) pe_int (nomark _)) (pw_or (pt_not (pt_val (pe_call G_is_whole (hr.mono (by decide)) rfl T.m_is_whole T.F_is_whole.kp T.b_is_whole .nil pass0 (pa_cons (pe_ix ix_tup (pv 0) pe_int (fun _ _ => rfl)) pa_nil)))) (pw_or1 (pt_not (pt_val (pe_callB call_isinst rfl T.z_isinstance PyProof.Rows.boot_isinstance (pa_cons (pe_ix ix_tup (pv 0) pe_int (fun _ _ => rfl)) (pa_cons (pe_bltn rfl T.z_list boot_list rfl) pa_nil)))))))))) (pss_one (ps_raiseV T.X_NoWeb G__NoWeb (hr.mono (by decide)) rfl T.m_NoWeb T.bi_NoWeb pass0 rfl throwsV (pa_cons (pe_un un_neg pe_int) pa_nil))) pss_nil))
  (pss_cons (ps_asg (pv 0) (pg_tup rfl (pgs_cons (pg_name (i := 1) sc_look_web.nd rfl (Or.inl rfl)) (pgs_cons (pg_name (i := 2) sc_look_web.nd rfl (Or.inl rfl)) pgs_nil))))
  (pss_cons (ps_for PassesOwn.leaving rfl (pi_enum rfl T.z_enumerate (pa_cons (pv 2) pa_nil)) (pg_tup rfl (pgs_cons (pg_name (i := 3) sc_look_web.nd rfl (Or.inl rfl)) (pgs_cons (pg_name (i := 4) sc_look_web.nd rfl (Or.inl rfl)) pgs_nil)))
  (pss_one (ps_if (pt_not (pt_val (pe_call G_is_road (hr.mono (by decide)) rfl T.m_is_road T.F_is_road.kp T.b_is_road .nil pass0 (pa_cons (pv 4) (pa_cons (pv 1) pa_nil))))) (pss_one (ps_raiseV T.X_NoWeb G__NoWeb (hr.mono (by decide)) rfl T.m_NoWeb T.bi_NoWeb pass0 rfl throwsV (pa_cons (pv 3) pa_nil))) pss_nil)))
  (pss_one (ps_if (PW.pt (pw_or (pt_not (pt_chain op_le op_le pe_int (pv 1) (pe_glob rfl T.m_MOST_PLACES ⟨_, rfl⟩))) (pw_or (pt_cmpR op_gt (pe_callB call_len_seq rfl T.z_len PySem.boot_len (pa_cons (pv 2) pa_nil)) (pe_glob rfl T.m_MOST_ROADS ⟨_, rfl⟩) (nomark _)) (pw_or1 (pt_cmpR op_lt (pe_callB call_lenD rfl T.z_len PySem.boot_len (pa_cons (pe_call G_places_come_to (hr.mono (by decide)) rfl T.m_places_come_to T.F_places_come_to.kp T.b_places_come_to .nil pass0 (pa_cons (pv 2) pa_nil)) pa_nil)) (pv 1) (nomark _)))))) (pss_one (ps_raiseV T.X_NoWeb G__NoWeb (hr.mono (by decide)) rfl T.m_NoWeb T.bi_NoWeb pass0 rfl throwsV (pa_cons (pe_un un_neg pe_int) pa_nil))) pss_nil))))),
    rd_look_web W l200 q e⟩
def t__law_mixed_0 : TS :=
  (tSeq (tAsg (tOp (rI0 fun i j => .int (i + j)) (tOp (rI (fun _ j => 0 < j) fun i j => .int (i % j)) (tVar 3) (tOp (rI CPow fun i j => .int (i ^ j.toNat)) (tC (.int 10)) (tC (.int 18)))) (tOp (rI IntMulOk fun i j => .int (i * j)) (tC (.int 48271)) (tOp (rI0 fun i j => .int (i + j)) (tVar 1) (tC (.int 1))))) (gName 5))
  (tSeq (tAsg (tOp (rI0 fun i j => .int (i + j)) (tOp (rI (fun _ j => 0 < j) fun i j => .int (i % j)) (tOp (rI IntMulOk fun i j => .int (i * j)) (tVar 5) (tVar 5)) (tC (.int 2147483629))) (tOp (rI IntMulOk fun i j => .int (i * j)) (tC (.int 69621)) (tVar 1))) (gName 5))
  (tRet (tOp (rI (fun _ j => 0 < j) fun i j => .int (i % j)) (tOp (rI IntMulOk fun i j => .int (i * j)) (tVar 5) (tVar 5)) (tC (.int 2147483587))))))
theorem t__law_mixed_0_eq (D : Ends) (σ : St) (H : Hp) : t__law_mixed_0 D σ H = (tSeq (tAsg (tOp (rI0 fun i j => .int (i + j)) (tOp (rI (fun _ j => 0 < j) fun i j => .int (i % j)) (tVar 3) (tOp (rI CPow fun i j => .int (i ^ j.toNat)) (tC (.int 10)) (tC (.int 18)))) (tOp (rI IntMulOk fun i j => .int (i * j)) (tC (.int 48271)) (tOp (rI0 fun i j => .int (i + j)) (tVar 1) (tC (.int 1))))) (gName 5))
  (tSeq (tAsg (tOp (rI0 fun i j => .int (i + j)) (tOp (rI (fun _ j => 0 < j) fun i j => .int (i % j)) (tOp (rI IntMulOk fun i j => .int (i * j)) (tVar 5) (tVar 5)) (tC (.int 2147483629))) (tOp (rI IntMulOk fun i j => .int (i * j)) (tC (.int 69621)) (tVar 1))) (gName 5))
  (tRet (tOp (rI (fun _ j => 0 < j) fun i j => .int (i % j)) (tOp (rI IntMulOk fun i j => .int (i * j)) (tVar 5) (tVar 5)) (tC (.int 2147483587)))))) D σ H := rfl
def t__law_mixed_1 (K : PySem.W.Frag) : TS :=
  (tIfS (tTest (tOp (rI0 fun i j => .bl (decide (j < i))) (tCB (fun xs H Q => ∃ p ys, xs = [.ref p] ∧ (SqL K H p ys ∨ SqT K H p ys) ∧ Q (.int ys.length) H) (tCons (tVar 0) tNil)) (tC (.int 0)))) (tAsg (tOp (rIxL K) (tVar 0) (tOp (rI (fun _ j => 0 < j) fun i j => .int (i % j)) (tVar 1) (tCB (fun xs H Q => ∃ i j, xs = [.int i, .int j] ∧ Q (.int (if j < i then j else i)) H) (tCons (tC (.int 63)) (tCons (tCB (fun xs H Q => ∃ p ys, xs = [.ref p] ∧ (SqL K H p ys ∨ SqT K H p ys) ∧ Q (.int ys.length) H) (tCons (tVar 0) tNil)) tNil))))) (gName 3)) tNext)
theorem t__law_mixed_1_eq (K : PySem.W.Frag) (D : Ends) (σ : St) (H : Hp) : t__law_mixed_1 K D σ H = (tIfS (tTest (tOp (rI0 fun i j => .bl (decide (j < i))) (tCB (fun xs H Q => ∃ p ys, xs = [.ref p] ∧ (SqL K H p ys ∨ SqT K H p ys) ∧ Q (.int ys.length) H) (tCons (tVar 0) tNil)) (tC (.int 0)))) (tAsg (tOp (rIxL K) (tVar 0) (tOp (rI (fun _ j => 0 < j) fun i j => .int (i % j)) (tVar 1) (tCB (fun xs H Q => ∃ i j, xs = [.int i, .int j] ∧ Q (.int (if j < i then j else i)) H) (tCons (tC (.int 63)) (tCons (tCB (fun xs H Q => ∃ p ys, xs = [.ref p] ∧ (SqL K H p ys ∨ SqT K H p ys) ∧ Q (.int ys.length) H) (tCons (tVar 0) tNil)) tNil))))) (gName 3)) tNext) D σ H := rfl
def t__law_mixed_2 : TS :=
  (tIfS (tTest (tOp (rI0 fun i j => .bl (decide (j < i))) (tVar 3) (tC (.int 0)))) (tRet (tOp (rI (fun _ j => 0 < j) fun i j => .int (i % j)) (tVar 3) (tC (.int 2147483587)))) tNext)
theorem t__law_mixed_2_eq (D : Ends) (σ : St) (H : Hp) : t__law_mixed_2 D σ H = (tIfS (tTest (tOp (rI0 fun i j => .bl (decide (j < i))) (tVar 3) (tC (.int 0)))) (tRet (tOp (rI (fun _ j => 0 < j) fun i j => .int (i % j)) (tVar 3) (tC (.int 2147483587)))) tNext) D σ H := rfl
def t__law_mixed_3 (K : PySem.W.Frag) : TS :=
  (tIfS (tAnd (tTest (tOp (rI0 fun i j => .bl (decide (i < j))) (tVar 2) (tCB (fun xs H Q => ∃ p ys, xs = [.ref p] ∧ (SqL K H p ys ∨ SqT K H p ys) ∧ Q (.int ys.length) H) (tCons (tVar 0) tNil)))) (tTest (tOp (rI0 fun i j => .bl (decide (j ≤ i))) (tOp (rIxL K) (tVar 0) (tVar 2)) (tOp (rI CPow fun i j => .int (i ^ j.toNat)) (tC (.int 10)) (tC (.int 18)))))) (tSeq (tAsg (tOp (rI (fun _ j => 0 < j ∧ j.natAbs.log2 < 9000) fun i j => .int (i / j)) (tOp (rIxL K) (tVar 0) (tVar 2)) (tOp (rI CPow fun i j => .int (i ^ j.toNat)) (tC (.int 10)) (tC (.int 18)))) (gName 3))
  (tSeq (tFor (iRng1 (tCons (tOp (rI (fun _ j => 0 < j) fun i j => .int (i % j)) (tVar 1) (tC (.int 8))) tNil)) (gName 4)
  (tAsg (tOp (rI (fun _ j => 0 < j ∧ j.natAbs.log2 < 9000) fun i j => .int (i / j)) (tVar 3) (tC (.int 2147483587))) (gName 3)))
  (t__law_mixed_2))) tNext)
theorem t__law_mixed_3_eq (K : PySem.W.Frag) (D : Ends) (σ : St) (H : Hp) : t__law_mixed_3 K D σ H = (tIfS (tAnd (tTest (tOp (rI0 fun i j => .bl (decide (i < j))) (tVar 2) (tCB (fun xs H Q => ∃ p ys, xs = [.ref p] ∧ (SqL K H p ys ∨ SqT K H p ys) ∧ Q (.int ys.length) H) (tCons (tVar 0) tNil)))) (tTest (tOp (rI0 fun i j => .bl (decide (j ≤ i))) (tOp (rIxL K) (tVar 0) (tVar 2)) (tOp (rI CPow fun i j => .int (i ^ j.toNat)) (tC (.int 10)) (tC (.int 18)))))) (tSeq (tAsg (tOp (rI (fun _ j => 0 < j ∧ j.natAbs.log2 < 9000) fun i j => .int (i / j)) (tOp (rIxL K) (tVar 0) (tVar 2)) (tOp (rI CPow fun i j => .int (i ^ j.toNat)) (tC (.int 10)) (tC (.int 18)))) (gName 3))
  (tSeq (tFor (iRng1 (tCons (tOp (rI (fun _ j => 0 < j) fun i j => .int (i % j)) (tVar 1) (tC (.int 8))) tNil)) (gName 4)
  (tAsg (tOp (rI (fun _ j => 0 < j ∧ j.natAbs.log2 < 9000) fun i j => .int (i / j)) (tVar 3) (tC (.int 2147483587))) (gName 3)))
  (t__law_mixed_2))) tNext) D σ H := rfl
def t__law_mixed (K : PySem.W.Frag) : TS :=
  (tSeq (tAsg (tOp (rI (fun _ j => 0 < j) fun i j => .int (i % j)) (tOp (rI (fun _ j => 0 < j ∧ j.natAbs.log2 < 9000) fun i j => .int (i / j)) (tVar 1) (tC (.int 8))) (tC (.int 63))) (gName 2))
  (tSeq (tCut (t__law_mixed_3 K))
  (tSeq (tAsg (tC (.int 0)) (gName 3))
  (tSeq (tCut (t__law_mixed_1 K))
  (t__law_mixed_0)))))
theorem rd__law_mixed {p : Addr} {ns : List Int} {k : Int} (hS : SqL K H p (ns.map V.int)) (hl : ns.length ≤ 63) (k0 : 0 ≤ k) (k1 : k < 1000000) (q : ∀ r : Int, 0 ≤ r → r < 2147483587 → Q (.int r) H) :
    t__law_mixed K { nx := fun _ H' => Q .non H', rt := Q } (L2.start ["_law_script", "_law_k", "_law_at", "_law_cell", "_law_j", "_law_number"] [.ref p, .int k]) H := by
  unfold t__law_mixed
  simp_all only [t__law_mixed_0_eq,t__law_mixed_1_eq,t__law_mixed_2_eq,t__law_mixed_3_eq,tVar]
  have el : ((ns.map V.int).length : Int) = (ns.length : Int) := by rw [List.length_map]
  refine ⟨log8.1, log8.2, by decide, fun σ H' => H' = H ∧ ∃ t c j, σ = [some (.ref p), some (.int k), t, c, j, none], ?_, ?_⟩
  · simp_all only [t__law_mixed_0_eq,t__law_mixed_1_eq,t__law_mixed_2_eq,t__law_mixed_3_eq,tVar]
    refine ⟨_, .inl hS, ?_⟩
    rw [el]
    refine ite2 (fun c => ?_) (fun c => ?_)
    · obtain ⟨v, hv, _⟩ := at_int (ns := ns) (k := k / 8 % 63) (by omega) c
      refine ⟨_, hS, _, hv, ?_⟩
      simp_all only [t__law_mixed_0_eq,t__law_mixed_1_eq,t__law_mixed_2_eq,t__law_mixed_3_eq,tVar]
      refine ⟨pow18, ?_⟩
      refine ite2 (fun c2 => ?_) (fun c2 => trivial)
      · refine ⟨_, hS, _, hv, pow18, _, rfl, logA.1, logA.2, by decide, by omega, by omega, ?_⟩
        refine for_rangeF (fun _ σ H' => H' = H ∧ ∃ t c j, σ = [some (.ref p), some (.int k), t, some (.int c), j, none]) ⟨rfl, _, _, _, rfl⟩ ?_ ?_
        · rintro i σ H' hi ⟨rfl, t, c, j, rfl⟩
          simp_all only [t__law_mixed_0_eq,t__law_mixed_1_eq,t__law_mixed_2_eq,t__law_mixed_3_eq,tVar]
          exact ⟨logB.1, logB.2⟩
        · rintro σ H' ⟨rfl, t, c, j, rfl⟩
          simp_all only [t__law_mixed_0_eq,t__law_mixed_1_eq,t__law_mixed_2_eq,t__law_mixed_3_eq,tVar]
          refine ite2 (fun c3 => ?_) (fun c3 => ?_)
          · exact ⟨by decide, q _ (Int.emod_nonneg _ (by decide)) (Int.emod_lt_of_pos _ (by decide))⟩
          · trivial
    · trivial
  · rintro σ H' ⟨e, t, c, j, rfl⟩
    rw [e]
    simp_all only [t__law_mixed_0_eq,t__law_mixed_1_eq,t__law_mixed_2_eq,t__law_mixed_3_eq,tVar]
    refine ⟨fun σ H' => H' = H ∧ ∃ t c j, σ = [some (.ref p), some (.int k), t, some (.int c), j, none], ?_, ?_⟩
    · simp_all only [t__law_mixed_0_eq,t__law_mixed_1_eq,t__law_mixed_2_eq,t__law_mixed_3_eq,tVar]
      refine ⟨_, .inl hS, ?_⟩
      rw [el]
      refine ite2 (fun c => ?_) (fun c => trivial)
      refine ⟨_, .inl hS, ?_⟩
      rw [el]
      have hm : 0 < (if (ns.length : Int) < 63 then (ns.length : Int) else 63) := by split <;> omega
      obtain ⟨v, hv, _⟩ := at_int (ns := ns) (k := k % if (ns.length : Int) < 63 then (ns.length : Int) else 63) (Int.emod_nonneg _ (by omega)) (Int.lt_of_lt_of_le (Int.emod_lt_of_pos _ hm) (by split <;> omega))
      exact ⟨hm, _, hS, _, hv, _, rfl⟩
    · rintro σ H' ⟨e, t, c, j, rfl⟩
      rw [e]
      simp_all only [t__law_mixed_0_eq,t__law_mixed_1_eq,t__law_mixed_2_eq,t__law_mixed_3_eq,tVar]
      have b1 := Int.emod_nonneg c (show (1000000000000000000 : Int) ≠ 0 by decide)
      have b2 := Int.emod_lt_of_pos c (show (0 : Int) < 1000000000000000000 by decide)
      generalize c % 1000000000000000000 = z at b1 b2 ⊢
      have m1 : IntMulOk (z + 48271 * (k + 1)) (z + 48271 * (k + 1)) := mulR (by omega) (by omega)
      generalize (z + 48271 * (k + 1)) * (z + 48271 * (k + 1)) = y
      have b3 := Int.emod_nonneg y (show (2147483629 : Int) ≠ 0 by decide)
      have b4 := Int.emod_lt_of_pos y (show (0 : Int) < 2147483629 by decide)
      generalize y % 2147483629 = x at b3 b4 ⊢
      exact ⟨pow18, by decide, mulL (by decide) (by decide), m1, by decide, mulL (by decide) (by decide), mulR (by omega) (by omega), by decide, q _ (Int.emod_nonneg _ (by decide)) (Int.emod_lt_of_pos _ (by decide))⟩
theorem sc__law_mixed : FnScope ["_law_script", "_law_k", "_law_at", "_law_cell", "_law_j", "_law_number"] ["_law_script", "_law_k"] (defScope s__law_mixed) := ⟨rfl, rfl, rfl, by decide +kernel, rfl, by decide +kernel, by decide +kernel⟩
theorem ok__law_mixed (T : Txt K mg a) : FnOk P w K mg base CX0 1 a.f__law_mixed a.d__law_mixed ["_law_script", "_law_k"] (spMixed K) := by
  refine T.F__law_mixed.ok sc__law_mixed (fun vs H Q E h => ?_) (fun cdv A outer s H vs Q E hr h => ?_)
  · obtain ⟨p, ns, k, rfl, hS, hl, k0, k1, q⟩ := h
    rfl
  obtain ⟨p, ns, k, rfl, hS, hl, k0, k1, q⟩ := h
  exact ⟨t__law_mixed K, (pss_cons (ps_set (i := 2) sc__law_mixed.nd rfl (Or.inl rfl) (pe_op op_mod (pe_op op_fdivP (pv 1) pe_int) pe_int))
  (pss_cons (ps_cut (ps_if (PW.pt (pw_and (pt_cmpR op_lt (pv 2) (pe_callB call_len_seq rfl T.z_len PySem.boot_len (pa_cons (pv 0) pa_nil)) (nomark _)) (pw_and1 (pt_cmpR op_ge (pe_ix ix_list (pv 0) (pv 2) (fun _ _ => rfl)) (pe_op op_pow pe_int pe_int) (nomark _))))) (pss_cons (ps_set (i := 3) sc__law_mixed.nd rfl (Or.inl rfl) (pe_op op_fdivP (pe_ix ix_list (pv 0) (pv 2) (fun _ _ => rfl)) (pe_op op_pow pe_int pe_int)))
  (pss_cons (ps_for PassesOwn.never rfl (pi_range1 rfl T.z_range (pa_cons (pe_op op_mod (pv 1) pe_int) pa_nil)) (pg_name (i := 4) sc__law_mixed.nd rfl (Or.inl rfl))
  (pss_one (ps_set (i := 3) sc__law_mixed.nd rfl (Or.inl rfl) (pe_op op_fdivP (pv 3) pe_int))))
  (pss_one (ps_if (pt_cmpR op_gt (pv 3) pe_int (nomark _)) (pss_one (ps_ret (pe_op op_mod (pv 3) pe_int))) pss_nil)))) pss_nil))
  (pss_cons (ps_set (i := 3) sc__law_mixed.nd rfl (Or.inl rfl) pe_int)
  (pss_cons (ps_cut (ps_if (pt_cmpR op_gt (pe_callB call_len_seq rfl T.z_len PySem.boot_len (pa_cons (pv 0) pa_nil)) pe_int (nomark _)) (pss_one (ps_set (i := 3) sc__law_mixed.nd rfl (Or.inl rfl) (pe_ix ix_list (pv 0) (pe_op op_mod (pv 1) (pe_callB (call_min2 rfl) rfl T.z_min PyProof.Rows.boot_min (pa_cons pe_int (pa_cons (pe_callB call_len_seq rfl T.z_len PySem.boot_len (pa_cons (pv 0) pa_nil)) pa_nil)))) (fun _ _ => rfl)))) pss_nil))
  (pss_cons (ps_set (i := 5) sc__law_mixed.nd rfl (Or.inl rfl) (pe_op op_add (pe_op op_mod (pv 3) (pe_op op_pow pe_int pe_int)) (pe_op op_mulG pe_int (pe_op op_add (pv 1) pe_int))))
  (pss_cons (ps_set (i := 5) sc__law_mixed.nd rfl (Or.inl rfl) (pe_op op_add (pe_op op_mod (pe_op op_mulG (pv 5) (pv 5)) pe_int) (pe_op op_mulG pe_int (pv 1))))
  (pss_one (ps_ret (pe_op op_mod (pe_op op_mulG (pv 5) (pv 5)) pe_int))))))))),
    rd__law_mixed hS hl k0 k1 q⟩
def t__law_whole (K : PySem.W.Frag) : TS :=
  (tRet (tAndV (tCB (rIsi K) (tCons (tVar 0) (tCons (tC (.ty "int")) tNil))) (tNotV (tCB (rIsi K) (tCons (tVar 0) (tCons (tC (.ty "bool")) tNil))))))
theorem rd__law_whole {x : Int} (q : Q (.bl true) H) : t__law_whole K { nx := fun _ H' => Q .non H', rt := Q } (L2.start ["_law_told"] [.int x]) H := by
  unfold t__law_whole
  simp_all only [tVar]
  refine isi_int_int ⟨_, rfl, iteT ?_⟩
  exact isi_int_bool ⟨_, rfl, q⟩
theorem sc__law_whole : FnScope ["_law_told"] ["_law_told"] (defScope s__law_whole) := ⟨rfl, rfl, rfl, by decide +kernel, rfl, by decide +kernel, by decide +kernel⟩
theorem ok__law_whole (T : Txt K mg a) : FnOk P w K mg base CX0 1 a.f__law_whole a.d__law_whole ["_law_told"] spWhole := by
  refine T.F__law_whole.ok sc__law_whole (fun vs H Q E h => ?_) (fun cdv A outer s H vs Q E hr h => ?_)
  · obtain ⟨x, rfl, q⟩ := h
    rfl
  obtain ⟨x, rfl, q⟩ := h
  exact ⟨t__law_whole K, (pss_one (ps_ret (pe_and (pe_callB call_isinst rfl T.z_isinstance PyProof.Rows.boot_isinstance (pa_cons (pv 0) (pa_cons (pe_bltn rfl T.z_int boot_int rfl) pa_nil))) (pe_one (pe_not (pe_callB call_isinst rfl T.z_isinstance PyProof.Rows.boot_isinstance (pa_cons (pv 0) (pa_cons (pe_bltn rfl T.z_bool boot_bool rfl) pa_nil)))))))),
    rd__law_whole q⟩
theorem pow6 : CPow 10 6 := ⟨by decide, by decide, by decide⟩
theorem log4' : (0 : Int) < 4 ∧ (Int.natAbs 4).log2 < 9000 := by decide +kernel
theorem at4 {a b c d r : Int} (h0 : 0 ≤ r) (h1 : r < 4) : ∃ v : Int, atI [V.int a, V.int b, V.int c, V.int d] r = some (.int v) ∧ (v = a ∨ v = b ∨ v = c ∨ v = d) := by
  have : r = 0 ∨ r = 1 ∨ r = 2 ∨ r = 3 := by omega
  rcases this with rfl | rfl | rfl | rfl
  · exact ⟨a, rfl, by simp⟩
  · exact ⟨b, rfl, by simp⟩
  · exact ⟨c, rfl, by simp⟩
  · exact ⟨d, rfl, by simp⟩
def spLength : Sp := fun vs H Q _ => ∃ n : Int, vs = [.int n] ∧ ∀ (l : Int) (H' : Hp), Same H H' → 1 ≤ l → l ≤ 1000000 → Q (.int l) H'
def t__law_length (K : PySem.W.Frag) : TS :=
  (tSeq (tAsg (tOp (rI (fun _ j => 0 < j) fun i j => .int (i % j)) (tVar 0) (tC (.int 4))) (gName 1))
  (tSeq (tAsg (tOp (rI (fun _ j => 0 < j ∧ j.natAbs.log2 < 9000) fun i j => .int (i / j)) (tVar 0) (tC (.int 4))) (gName 0))
  (tRet (tOp (rIxL K) (tLst (tCons (tOp (rI0 fun i j => .int (i + j)) (tC (.int 1)) (tOp (rI (fun _ j => 0 < j) fun i j => .int (i % j)) (tVar 0) (tC (.int 9)))) (tCons (tOp (rI0 fun i j => .int (i + j)) (tC (.int 1)) (tOp (rI (fun _ j => 0 < j) fun i j => .int (i % j)) (tVar 0) (tOp (rI CPow fun i j => .int (i ^ j.toNat)) (tC (.int 10)) (tC (.int 6))))) (tCons (tOp (rI0 fun i j => .int (i - j)) (tOp (rI CPow fun i j => .int (i ^ j.toNat)) (tC (.int 10)) (tC (.int 6))) (tOp (rI (fun _ j => 0 < j) fun i j => .int (i % j)) (tVar 0) (tC (.int 3)))) (tCons (tOp (rI0 fun i j => .int (i + j)) (tC (.int 1)) (tOp (rI (fun _ j => 0 < j) fun i j => .int (i % j)) (tVar 0) (tC (.int 2)))) tNil))))) (tVar 1)))))
theorem rd__law_length {n : Int} (q : ∀ (l : Int) (H' : Hp), Same H H' → 1 ≤ l → l ≤ 1000000 → Q (.int l) H') :
    t__law_length K { nx := fun _ H' => Q .non H', rt := Q } (L2.start ["_law_number", "_law_way"] [.int n]) H := by
  unfold t__law_length
  simp_all only [tVar]
  obtain ⟨v, hv, hc⟩ := at4 (a := 1 + n / 4 % 9) (b := 1 + n / 4 % 1000000) (c := 1000000 - n / 4 % 3) (d := 1 + n / 4 % 2) (r := n % 4) (by omega) (by omega)
  refine ⟨by decide, log4'.1, log4'.2, by decide, pow6, by decide, pow6, by decide, by decide, by decide, fun p hp => ?_⟩
  refine ⟨_, SqL.of upd_same, _, hv, ?_⟩
  exact q v _ (same_new hp _) (by omega) (by omega)
theorem sc__law_length : FnScope ["_law_number", "_law_way"] ["_law_number"] (defScope s__law_length) := ⟨rfl, rfl, rfl, by decide +kernel, rfl, by decide +kernel, by decide +kernel⟩
theorem ok__law_length (T : Txt K mg a) : FnOk P w K mg base CX0 1 a.f__law_length a.d__law_length ["_law_number"] spLength := by
  refine T.F__law_length.ok sc__law_length (fun vs H Q E h => ?_) (fun cdv A outer s H vs Q E hr h => ?_)
  · obtain ⟨n, rfl, q⟩ := h
    rfl
  obtain ⟨n, rfl, q⟩ := h
  exact ⟨t__law_length K, (pss_cons (ps_set (i := 1) sc__law_length.nd rfl (Or.inl rfl) (pe_op op_mod (pv 0) pe_int))
  (pss_cons (ps_set (i := 0) sc__law_length.nd rfl (Or.inl rfl) (pe_op op_fdivP (pv 0) pe_int))
  (pss_one (ps_ret (pe_ix ix_list (pe_lst (pa_cons (pe_op op_add pe_int (pe_op op_mod (pv 0) pe_int)) (pa_cons (pe_op op_add pe_int (pe_op op_mod (pv 0) (pe_op op_pow pe_int pe_int))) (pa_cons (pe_op op_sub (pe_op op_pow pe_int pe_int) (pe_op op_mod (pv 0) pe_int)) (pa_cons (pe_op op_add pe_int (pe_op op_mod (pv 0) pe_int)) pa_nil))))) (pv 1) (fun _ _ => rfl)))))),
    rd__law_length q⟩
theorem seqIx {i : Int} {n : Nat} (h0 : 0 ≤ i) (h1 : i < n) : PySem.seqIndex? i n = some i.toNat := by
  unfold PySem.seqIndex?
  have e : ¬ i < 0 := by omega
  simp [e, h0, h1]
def upto (m : Int) : List Int := (List.range m.toNat).map fun k : Nat => (k : Int)
theorem mem_ints {m x : Int} : x ∈ upto m ↔ 0 ≤ x ∧ x < m := by
  unfold upto
  rw [List.mem_map]
  constructor
  · rintro ⟨k, hk, rfl⟩
    have := List.mem_range.mp hk
    omega
  · rintro ⟨h0, h1⟩
    exact ⟨x.toNat, List.mem_range.mpr (by omega), by omega⟩
theorem nodup_ints {m : Int} : (upto m).Nodup := by
  unfold upto
  refine List.nodup_iff_pairwise_ne.mpr (List.pairwise_map.mpr ((List.nodup_iff_pairwise_ne.mp List.nodup_range).imp fun h e => h ?_))
  omega
theorem ints_cons {m : Int} (h : 1 ≤ m) : upto m = 0 :: (List.range (m - 1).toNat).map fun k : Nat => 1 + (k : Int) := by
  unfold upto
  rw [show m.toNat = (m - 1).toNat + 1 by omega, List.range_succ_eq_map, List.map_cons, List.map_map]
  refine congrArg (List.cons 0) (List.map_congr_left fun k _ => ?_)
  simp only [Function.comp]
  omega
theorem erase_map {α β : Type} (f : α → β) : ∀ (l : List α) (k : Nat), (l.map f).eraseIdx k = (l.eraseIdx k).map f
  | [], k => by simp
  | x :: l, 0 => rfl
  | x :: l, k + 1 => by
    rw [List.map_cons, List.eraseIdx_cons_succ, List.eraseIdx_cons_succ, List.map_cons, erase_map f l k]
theorem erase_perm {α : Type} {l : List α} {k : Nat} {x : α} (h : l[k]? = some x) : (x :: l.eraseIdx k).Perm l := by
  induction l generalizing k with
  | nil => simp at h
  | cons y l ih =>
    cases k with
    | zero =>
      simp only [List.getElem?_cons_zero,Option.some.injEq] at h
      subst h
      exact .refl _
    | succ k =>
      rw [List.getElem?_cons_succ] at h
      rw [List.eraseIdx_cons_succ]
      exact (List.Perm.swap y x _).trans ((ih h).cons y)
theorem nodup_at {α : Type} {l : List α} (nd : l.Nodup) {i j : Nat} {x y : α} (h1 : l[i]? = some x) (h2 : l[j]? = some y) (c : i < j) : x ≠ y := by
  obtain ⟨l1, e1⟩ := List.getElem?_eq_some_iff.mp h1
  obtain ⟨l2, e2⟩ := List.getElem?_eq_some_iff.mp h2
  rw [← e1, ← e2]
  exact List.pairwise_iff_getElem.mp (List.nodup_iff_pairwise_ne.mp nd) i j l1 l2 c
theorem at2 {x y : V} {r : Int} (h0 : 0 ≤ r) (h1 : r < 2) : ∃ v, atI [x, y] r = some v ∧ (v = x ∨ v = y) := by
  have : r = 0 ∨ r = 1 := by omega
  rcases this with rfl | rfl
  · exact ⟨x, rfl, .inl rfl⟩
  · exact ⟨y, rfl, .inr rfl⟩
theorem log3600 : (0 : Int) < 3600 ∧ (Int.natAbs 3600).log2 < 9000 := by decide +kernel
theorem log100 : (0 : Int) < 100 ∧ (Int.natAbs 100).log2 < 9000 := by decide +kernel
theorem log2' : (0 : Int) < 2 ∧ (Int.natAbs 2).log2 < 9000 := by decide +kernel
def Joins (ls : List Int) (rs : List Road) (n : Nat) : Prop := ∀ k, 1 ≤ k → k ≤ n → ∃ r ∈ rs, ∃ j, j < k ∧ ((ls[k]? = some r.1 ∧ ls[j]? = some r.2.1) ∨ (ls[k]? = some r.2.1 ∧ ls[j]? = some r.1))
theorem Joins.conn {ls : List Int} {rs : List Road} {n : Nat} {m : Int} (h : Joins ls rs n) (hm : m = n + 1) (hp : ls.Perm (upto m)) (h0 : ls[0]? = some 0) : Conn m rs := by
  intro S s0 sc x x0 x1
  have hl : ls.length = n + 1 := by
    rw [hp.length_eq]
    unfold upto
    rw [List.length_map, List.length_range]
    omega
  have z : ∀ (k : Nat) (y : Int), ls[k]? = some y → S y := by
    intro k
    induction k using Nat.strongRecOn with
    | ind k ih =>
      intro y hy
      cases k with
      | zero =>
        rw [h0] at hy
        cases hy
        exact s0
      | succ k =>
        have lk := (List.getElem?_eq_some_iff.mp hy).1
        obtain ⟨r, hr, j, hj, c⟩ := h (k + 1) (by omega) (by omega)
        rcases c with ⟨c1, c2⟩ | ⟨c1, c2⟩
        · rw [hy] at c1
          cases c1
          exact (sc r hr (.inr (ih j hj _ c2))).1
        · rw [hy] at c1
          cases c1
          exact (sc r hr (.inl (ih j hj _ c2))).2
  have hx : x ∈ ls := hp.mem_iff.mpr (mem_ints.mpr ⟨x0, x1⟩)
  obtain ⟨k, hk⟩ := List.getElem?_of_mem hx
  exact z k x hk
theorem Joins.mono {ls : List Int} {rs rs' : List Road} {n : Nat} (h : Joins ls rs n) (hs : ∀ r ∈ rs, r ∈ rs') : Joins ls rs' n := fun k k1 kn => by
  obtain ⟨r, hr, c⟩ := h k k1 kn
  exact ⟨r, hs r hr, c⟩
def insAt {α : Type} (l : List α) (k : Nat) (x : α) : List α := l.take k ++ x :: l.drop k
theorem insAt_map {α β : Type} (f : α → β) (l : List α) (k : Nat) (x : α) : (insAt l k x).map f = insAt (l.map f) k (f x) := by
  unfold insAt
  rw [List.map_append, List.map_cons, List.map_take, List.map_drop]
theorem insAt_mem {α : Type} {l : List α} {k : Nat} {x y : α} : y ∈ insAt l k x ↔ y = x ∨ y ∈ l := by
  unfold insAt
  rw [List.mem_append, List.mem_cons]
  constructor
  · rintro (h | h | h)
    · exact .inr (List.mem_of_mem_take h)
    · exact .inl h
    · exact .inr (List.mem_of_mem_drop h)
  · rintro (h | h)
    · exact .inr (.inl h)
    · rw [← List.take_append_drop k l] at h
      rcases List.mem_append.mp h with h | h
      · exact .inl h
      · exact .inr (.inr h)
theorem insAt_len {α : Type} {l : List α} {k : Nat} {x : α} (h : k ≤ l.length) : (insAt l k x).length = l.length + 1 := by
  unfold insAt
  rw [List.length_append, List.length_cons, List.length_take, List.length_drop]
  omega
theorem insAt_at {α : Type} {l : List α} {k : Nat} {x : α} (h : k ≤ l.length) (i : Nat) : (insAt l k x)[i]? = if i < k then l[i]? else if i = k then some x else l[i - 1]? := by
  unfold insAt
  have lt : (l.take k).length = k := by rw [List.length_take]; omega
  by_cases c : i < k
  · rw [if_pos c, List.getElem?_append_left (by omega), List.getElem?_take_of_lt c]
  · rw [if_neg c, List.getElem?_append_right (by omega), lt]
    by_cases c2 : i = k
    · subst c2
      rw [if_pos rfl, Nat.sub_self]
      rfl
    · rw [if_neg c2, show i - k = (i - k - 1) + 1 by omega, List.getElem?_cons_succ, List.getElem?_drop]
      congr 1
      omega
theorem Tps.ins {α : Type} {f : α → List V} {H : Hp} {ts : List Addr} {bs : List α} {t : Addr} {b : α} {k : Nat} (h : Tps f H ts bs) (hk : k ≤ ts.length) (e : H t = some (.tup (f b))) : Tps f H (insAt ts k t) (insAt bs k b) := by
  have hk' : k ≤ bs.length := by rw [← h.1]; exact hk
  refine ⟨by rw [insAt_len hk, insAt_len hk', h.1], fun i x y e1 e2 => ?_⟩
  rw [insAt_at hk] at e1
  rw [insAt_at hk'] at e2
  split at e1
  · rename_i c
    rw [if_pos c] at e2
    exact h.2 i x y e1 e2
  · rename_i c
    rw [if_neg c] at e2
    split at e1
    · rename_i c2
      rw [if_pos c2] at e2
      cases e1
      cases e2
      exact e
    · rename_i c2
      rw [if_neg c2] at e2
      exact h.2 _ x y e1 e2
def spWeb (K : PySem.W.Frag) : Sp := fun vs H Q _ => ∃ (p : Addr) (ns : List Int) (st mo ex : Int), vs = [.ref p, .int st, .int mo, .int ex] ∧ SqL K H p (ns.map V.int) ∧ ns.length ≤ 63 ∧ 0 ≤ st ∧ st ≤ 10000 ∧ 1 ≤ mo ∧ mo ≤ 60 ∧ 0 ≤ ex ∧ ex ≤ 20 ∧
  ∀ (w rl : Addr) (ts : List Addr) (m : Int) (rs : List Road) (H' : Hp), Same H H' → WebH H' w rl ts m rs → GW m rs → m ≤ mo → (rs.length : Int) ≤ m - 1 + ex → m - 1 ≤ (rs.length : Int) → Q (.ref w) H'
def t__law_web_0 (K : PySem.W.Frag) : TS :=
  (tIfS (tTest (tOp rNe (tVar 14) (tVar 15))) (tDrop (tBM K "list" rInsert (tVar 9) (tCons (tOp (rI (fun _ j => 0 < j) fun i j => .int (i % j)) (tOp (rI (fun _ j => 0 < j ∧ j.natAbs.log2 < 9000) fun i j => .int (i / j)) (tVar 10) (tC (.int 3600))) (tOp (rI0 fun i j => .int (i + j)) (tCB (fun xs H Q => ∃ p ys, xs = [.ref p] ∧ (SqL K H p ys ∨ SqT K H p ys) ∧ Q (.int ys.length) H) (tCons (tVar 9) tNil)) (tC (.int 1)))) (tCons (tTup (tCons (tVar 14) (tCons (tVar 15) (tCons (tCall spLength [] E0 (tCons (tOp (rI (fun _ j => 0 < j ∧ j.natAbs.log2 < 9000) fun i j => .int (i / j)) (tVar 10) (tC (.int 100))) tNil)) tNil)))) tNil)))) tNext)
theorem t__law_web_0_eq (K : PySem.W.Frag) (D : Ends) (σ : St) (H : Hp) : t__law_web_0 K D σ H = (tIfS (tTest (tOp rNe (tVar 14) (tVar 15))) (tDrop (tBM K "list" rInsert (tVar 9) (tCons (tOp (rI (fun _ j => 0 < j) fun i j => .int (i % j)) (tOp (rI (fun _ j => 0 < j ∧ j.natAbs.log2 < 9000) fun i j => .int (i / j)) (tVar 10) (tC (.int 3600))) (tOp (rI0 fun i j => .int (i + j)) (tCB (fun xs H Q => ∃ p ys, xs = [.ref p] ∧ (SqL K H p ys ∨ SqT K H p ys) ∧ Q (.int ys.length) H) (tCons (tVar 9) tNil)) (tC (.int 1)))) (tCons (tTup (tCons (tVar 14) (tCons (tVar 15) (tCons (tCall spLength [] E0 (tCons (tOp (rI (fun _ j => 0 < j ∧ j.natAbs.log2 < 9000) fun i j => .int (i / j)) (tVar 10) (tC (.int 100))) tNil)) tNil)))) tNil)))) tNext) D σ H := rfl
def t__law_web_1 (K : PySem.W.Frag) : TS :=
  (tSeq (tPar 14 15 (tCons (tOp (rI (fun _ j => 0 < j) fun i j => .int (i % j)) (tVar 10) (tVar 4)) (tCons (tOp (rI (fun _ j => 0 < j) fun i j => .int (i % j)) (tOp (rI (fun _ j => 0 < j ∧ j.natAbs.log2 < 9000) fun i j => .int (i / j)) (tVar 10) (tVar 4)) (tVar 4)) tNil)))
  (t__law_web_0 K))
theorem t__law_web_1_eq (K : PySem.W.Frag) (D : Ends) (σ : St) (H : Hp) : t__law_web_1 K D σ H = (tSeq (tPar 14 15 (tCons (tOp (rI (fun _ j => 0 < j) fun i j => .int (i % j)) (tVar 10) (tVar 4)) (tCons (tOp (rI (fun _ j => 0 < j) fun i j => .int (i % j)) (tOp (rI (fun _ j => 0 < j ∧ j.natAbs.log2 < 9000) fun i j => .int (i / j)) (tVar 10) (tVar 4)) (tVar 4)) tNil)))
  (t__law_web_0 K)) D σ H := rfl
def t__law_web_2 (K : PySem.W.Frag) : TS :=
  (tSeq (tAsg (tCall (spMixed K) [] E0 (tCons (tVar 0) (tCons (tOp (rI0 fun i j => .int (i + j)) (tOp (rI0 fun i j => .int (i + j)) (tVar 1) (tC (.int 181))) (tVar 8)) tNil))) (gName 10))
  (t__law_web_1 K))
theorem t__law_web_2_eq (K : PySem.W.Frag) (D : Ends) (σ : St) (H : Hp) : t__law_web_2 K D σ H = (tSeq (tAsg (tCall (spMixed K) [] E0 (tCons (tVar 0) (tCons (tOp (rI0 fun i j => .int (i + j)) (tOp (rI0 fun i j => .int (i + j)) (tVar 1) (tC (.int 181))) (tVar 8)) tNil))) (gName 10))
  (t__law_web_1 K)) D σ H := rfl
def t__law_web_3 (K : PySem.W.Frag) : TS :=
  (tDrop (tBM K "list" rInsert (tVar 9) (tCons (tVar 13) (tCons (tOp (rCatT K) (tVar 12) (tTup (tCons (tCall spLength [] E0 (tCons (tOp (rI (fun _ j => 0 < j ∧ j.natAbs.log2 < 9000) fun i j => .int (i / j)) (tOp (rI (fun _ j => 0 < j ∧ j.natAbs.log2 < 9000) fun i j => .int (i / j)) (tVar 10) (tVar 8)) (tC (.int 2))) tNil)) tNil))) tNil))))
theorem t__law_web_3_eq (K : PySem.W.Frag) (D : Ends) (σ : St) (H : Hp) : t__law_web_3 K D σ H = (tDrop (tBM K "list" rInsert (tVar 9) (tCons (tVar 13) (tCons (tOp (rCatT K) (tVar 12) (tTup (tCons (tCall spLength [] E0 (tCons (tOp (rI (fun _ j => 0 < j ∧ j.natAbs.log2 < 9000) fun i j => .int (i / j)) (tOp (rI (fun _ j => 0 < j ∧ j.natAbs.log2 < 9000) fun i j => .int (i / j)) (tVar 10) (tVar 8)) (tC (.int 2))) tNil)) tNil))) tNil)))) D σ H := rfl
def t__law_web_4 (K : PySem.W.Frag) : TS :=
  (tSeq (tAsg (tOp (rI (fun _ j => 0 < j) fun i j => .int (i % j)) (tCall (spMixed K) [] E0 (tCons (tVar 0) (tCons (tOp (rI0 fun i j => .int (i + j)) (tOp (rI0 fun i j => .int (i + j)) (tVar 1) (tC (.int 120))) (tVar 8)) tNil))) (tOp (rI0 fun i j => .int (i + j)) (tCB (fun xs H Q => ∃ p ys, xs = [.ref p] ∧ (SqL K H p ys ∨ SqT K H p ys) ∧ Q (.int ys.length) H) (tCons (tVar 9) tNil)) (tC (.int 1)))) (gName 13))
  (t__law_web_3 K))
theorem t__law_web_4_eq (K : PySem.W.Frag) (D : Ends) (σ : St) (H : Hp) : t__law_web_4 K D σ H = (tSeq (tAsg (tOp (rI (fun _ j => 0 < j) fun i j => .int (i % j)) (tCall (spMixed K) [] E0 (tCons (tVar 0) (tCons (tOp (rI0 fun i j => .int (i + j)) (tOp (rI0 fun i j => .int (i + j)) (tVar 1) (tC (.int 120))) (tVar 8)) tNil))) (tOp (rI0 fun i j => .int (i + j)) (tCB (fun xs H Q => ∃ p ys, xs = [.ref p] ∧ (SqL K H p ys ∨ SqT K H p ys) ∧ Q (.int ys.length) H) (tCons (tVar 9) tNil)) (tC (.int 1)))) (gName 13))
  (t__law_web_3 K)) D σ H := rfl
def t__law_web_5 (K : PySem.W.Frag) : TS :=
  (tSeq (tAsg (tOp (rIxL K) (tLst (tCons (tTup (tCons (tOp (rIxL K) (tVar 6) (tVar 8)) (tCons (tVar 11) tNil))) (tCons (tTup (tCons (tVar 11) (tCons (tOp (rIxL K) (tVar 6) (tVar 8)) tNil))) tNil))) (tOp (rI (fun _ j => 0 < j) fun i j => .int (i % j)) (tOp (rI (fun _ j => 0 < j ∧ j.natAbs.log2 < 9000) fun i j => .int (i / j)) (tVar 10) (tVar 8)) (tC (.int 2)))) (gName 12))
  (t__law_web_4 K))
theorem t__law_web_5_eq (K : PySem.W.Frag) (D : Ends) (σ : St) (H : Hp) : t__law_web_5 K D σ H = (tSeq (tAsg (tOp (rIxL K) (tLst (tCons (tTup (tCons (tOp (rIxL K) (tVar 6) (tVar 8)) (tCons (tVar 11) tNil))) (tCons (tTup (tCons (tVar 11) (tCons (tOp (rIxL K) (tVar 6) (tVar 8)) tNil))) tNil))) (tOp (rI (fun _ j => 0 < j) fun i j => .int (i % j)) (tOp (rI (fun _ j => 0 < j ∧ j.natAbs.log2 < 9000) fun i j => .int (i / j)) (tVar 10) (tVar 8)) (tC (.int 2)))) (gName 12))
  (t__law_web_4 K)) D σ H := rfl
def t__law_web_6 (K : PySem.W.Frag) : TS :=
  (tSeq (tAsg (tOp (rIxL K) (tVar 6) (tOp (rIxL K) (tLst (tCons (tOp (rI (fun _ j => 0 < j) fun i j => .int (i % j)) (tVar 10) (tVar 8)) (tCons (tOp (rI0 fun i j => .int (i - j)) (tVar 8) (tC (.int 1))) (tCons (tC (.int 0)) (tCons (tOp (rI (fun _ j => 0 < j) fun i j => .int (i % j)) (tVar 10) (tCB (fun xs H Q => ∃ i j, xs = [.int i, .int j] ∧ Q (.int (if j < i then j else i)) H) (tCons (tVar 8) (tCons (tC (.int 3)) tNil)))) tNil))))) (tVar 5))) (gName 11))
  (t__law_web_5 K))
theorem t__law_web_6_eq (K : PySem.W.Frag) (D : Ends) (σ : St) (H : Hp) : t__law_web_6 K D σ H = (tSeq (tAsg (tOp (rIxL K) (tVar 6) (tOp (rIxL K) (tLst (tCons (tOp (rI (fun _ j => 0 < j) fun i j => .int (i % j)) (tVar 10) (tVar 8)) (tCons (tOp (rI0 fun i j => .int (i - j)) (tVar 8) (tC (.int 1))) (tCons (tC (.int 0)) (tCons (tOp (rI (fun _ j => 0 < j) fun i j => .int (i % j)) (tVar 10) (tCB (fun xs H Q => ∃ i j, xs = [.int i, .int j] ∧ Q (.int (if j < i then j else i)) H) (tCons (tVar 8) (tCons (tC (.int 3)) tNil)))) tNil))))) (tVar 5))) (gName 11))
  (t__law_web_5 K)) D σ H := rfl
def t__law_web_7 (K : PySem.W.Frag) : TS :=
  (tSeq (tAsg (tCall (spMixed K) [] E0 (tCons (tVar 0) (tCons (tOp (rI0 fun i j => .int (i + j)) (tOp (rI0 fun i j => .int (i + j)) (tVar 1) (tC (.int 60))) (tVar 8)) tNil))) (gName 10))
  (t__law_web_6 K))
theorem t__law_web_7_eq (K : PySem.W.Frag) (D : Ends) (σ : St) (H : Hp) : t__law_web_7 K D σ H = (tSeq (tAsg (tCall (spMixed K) [] E0 (tCons (tVar 0) (tCons (tOp (rI0 fun i j => .int (i + j)) (tOp (rI0 fun i j => .int (i + j)) (tVar 1) (tC (.int 60))) (tVar 8)) tNil))) (gName 10))
  (t__law_web_6 K)) D σ H := rfl
def t__law_web_8 (K : PySem.W.Frag) : TS :=
  (tSeq (tFor (iRng1 (tCons (tOp (rI (fun _ j => 0 < j) fun i j => .int (i % j)) (tCall (spMixed K) [] E0 (tCons (tVar 0) (tCons (tOp (rI0 fun i j => .int (i + j)) (tVar 1) (tC (.int 180))) tNil))) (tOp (rI0 fun i j => .int (i + j)) (tVar 3) (tC (.int 1)))) tNil)) (gName 8)
  (t__law_web_2 K))
  (tRet (tTup (tCons (tVar 4) (tCons (tVar 9) tNil)))))
theorem t__law_web_8_eq (K : PySem.W.Frag) (D : Ends) (σ : St) (H : Hp) : t__law_web_8 K D σ H = (tSeq (tFor (iRng1 (tCons (tOp (rI (fun _ j => 0 < j) fun i j => .int (i % j)) (tCall (spMixed K) [] E0 (tCons (tVar 0) (tCons (tOp (rI0 fun i j => .int (i + j)) (tVar 1) (tC (.int 180))) tNil))) (tOp (rI0 fun i j => .int (i + j)) (tVar 3) (tC (.int 1)))) tNil)) (gName 8)
  (t__law_web_2 K))
  (tRet (tTup (tCons (tVar 4) (tCons (tVar 9) tNil))))) D σ H := rfl
def t__law_web_9 (K : PySem.W.Frag) : TS :=
  (tDrop (tBM K "list" rAppend (tVar 6) (tCons (tBM K "list" rPopAt (tVar 7) (tCons (tOp (rI (fun _ j => 0 < j) fun i j => .int (i % j)) (tCall (spMixed K) [] E0 (tCons (tVar 0) (tCons (tOp (rI0 fun i j => .int (i + j)) (tOp (rI0 fun i j => .int (i + j)) (tVar 1) (tC (.int 1))) (tVar 8)) tNil))) (tCB (fun xs H Q => ∃ p ys, xs = [.ref p] ∧ (SqL K H p ys ∨ SqT K H p ys) ∧ Q (.int ys.length) H) (tCons (tVar 7) tNil))) tNil)) tNil)))
theorem t__law_web_9_eq (K : PySem.W.Frag) (D : Ends) (σ : St) (H : Hp) : t__law_web_9 K D σ H = (tDrop (tBM K "list" rAppend (tVar 6) (tCons (tBM K "list" rPopAt (tVar 7) (tCons (tOp (rI (fun _ j => 0 < j) fun i j => .int (i % j)) (tCall (spMixed K) [] E0 (tCons (tVar 0) (tCons (tOp (rI0 fun i j => .int (i + j)) (tOp (rI0 fun i j => .int (i + j)) (tVar 1) (tC (.int 1))) (tVar 8)) tNil))) (tCB (fun xs H Q => ∃ p ys, xs = [.ref p] ∧ (SqL K H p ys ∨ SqT K H p ys) ∧ Q (.int ys.length) H) (tCons (tVar 7) tNil))) tNil)) tNil))) D σ H := rfl
def t__law_web_10 (K : PySem.W.Frag) : TS :=
  (tSeq (tAsg (tLst tNil) (gName 9))
  (tSeq (tFor (iRng2 (tCons (tC (.int 1)) (tCons (tVar 4) tNil))) (gName 8)
  (t__law_web_7 K))
  (t__law_web_8 K)))
theorem t__law_web_10_eq (K : PySem.W.Frag) (D : Ends) (σ : St) (H : Hp) : t__law_web_10 K D σ H = (tSeq (tAsg (tLst tNil) (gName 9))
  (tSeq (tFor (iRng2 (tCons (tC (.int 1)) (tCons (tVar 4) tNil))) (gName 8)
  (t__law_web_7 K))
  (t__law_web_8 K))) D σ H := rfl
def t__law_web_11 (K : PySem.W.Frag) : TS :=
  (tSeq (tAsg (tCB rListRng (tCons (tRng2 (tCons (tC (.int 1)) (tCons (tVar 4) tNil))) tNil)) (gName 7))
  (tSeq (tFor (iRng1 (tCons (tOp (rI0 fun i j => .int (i - j)) (tVar 4) (tC (.int 1))) tNil)) (gName 8)
  (t__law_web_9 K))
  (t__law_web_10 K)))
theorem t__law_web_11_eq (K : PySem.W.Frag) (D : Ends) (σ : St) (H : Hp) : t__law_web_11 K D σ H = (tSeq (tAsg (tCB rListRng (tCons (tRng2 (tCons (tC (.int 1)) (tCons (tVar 4) tNil))) tNil)) (gName 7))
  (tSeq (tFor (iRng1 (tCons (tOp (rI0 fun i j => .int (i - j)) (tVar 4) (tC (.int 1))) tNil)) (gName 8)
  (t__law_web_9 K))
  (t__law_web_10 K))) D σ H := rfl
def t__law_web_12 (K : PySem.W.Frag) : TS :=
  (tSeq (tAsg (tOp (rI (fun _ j => 0 < j) fun i j => .int (i % j)) (tOp (rI (fun _ j => 0 < j ∧ j.natAbs.log2 < 9000) fun i j => .int (i / j)) (tCall (spMixed K) [] E0 (tCons (tVar 0) (tCons (tVar 1) tNil))) (tVar 2)) (tC (.int 4))) (gName 5))
  (tSeq (tAsg (tLst (tCons (tC (.int 0)) tNil)) (gName 6))
  (t__law_web_11 K)))
theorem t__law_web_12_eq (K : PySem.W.Frag) (D : Ends) (σ : St) (H : Hp) : t__law_web_12 K D σ H = (tSeq (tAsg (tOp (rI (fun _ j => 0 < j) fun i j => .int (i % j)) (tOp (rI (fun _ j => 0 < j ∧ j.natAbs.log2 < 9000) fun i j => .int (i / j)) (tCall (spMixed K) [] E0 (tCons (tVar 0) (tCons (tVar 1) tNil))) (tVar 2)) (tC (.int 4))) (gName 5))
  (tSeq (tAsg (tLst (tCons (tC (.int 0)) tNil)) (gName 6))
  (t__law_web_11 K))) D σ H := rfl
def t__law_web (K : PySem.W.Frag) : TS :=
  (tSeq (tAsg (tOp (rI0 fun i j => .int (i + j)) (tC (.int 1)) (tOp (rI (fun _ j => 0 < j) fun i j => .int (i % j)) (tCall (spMixed K) [] E0 (tCons (tVar 0) (tCons (tVar 1) tNil))) (tVar 2))) (gName 4))
  (t__law_web_12 K))
theorem rd__law_web {p : Addr} {ns : List Int} {st mo ex : Int} (hS : SqL K H p (ns.map V.int)) (hl : ns.length ≤ 63) (st0 : 0 ≤ st) (st1 : st ≤ 10000) (mo1 : 1 ≤ mo) (mo60 : mo ≤ 60) (ex0 : 0 ≤ ex) (ex20 : ex ≤ 20)
    (q : ∀ (w rl : Addr) (ts : List Addr) (m : Int) (rs : List Road) (H' : Hp), Same H H' → WebH H' w rl ts m rs → GW m rs → m ≤ mo → (rs.length : Int) ≤ m - 1 + ex → m - 1 ≤ (rs.length : Int) → Q (.ref w) H') :
    t__law_web K { nx := fun _ H' => Q .non H', rt := Q } (L2.start ["_law_script", "_law_start", "_law_most", "_law_extra", "_law_many", "_law_shape", "_law_labels", "_law_left", "_law_k", "_law_roads", "_law_number", "_law_other", "_law_ends", "_law_at", "_law_a", "_law_b"] [.ref p, .int st, .int mo, .int ex]) H := by
  unfold t__law_web
  simp_all only [t__law_web_2_eq,t__law_web_7_eq,t__law_web_8_eq,t__law_web_9_eq,t__law_web_10_eq,tVar]
  refine ⟨p, ns, st, rfl, hS, hl, st0, by omega, fun r1 r10 r11 => ?_⟩
  refine ⟨_, rfl, by omega, ?_⟩
  have m1 : 1 ≤ 1 + r1 % mo := by have := Int.emod_nonneg r1 (show mo ≠ 0 by omega); omega
  have m2 : 1 + r1 % mo ≤ mo := by have := Int.emod_lt_of_pos r1 (show 0 < mo by omega); omega
  generalize 1 + r1 % mo = m at m1 m2 ⊢
  (try simp only); first | rw [t__law_web_0_eq] | rw [t__law_web_1_eq] | rw [t__law_web_3_eq] | rw [t__law_web_4_eq] | rw [t__law_web_5_eq] | rw [t__law_web_6_eq] | rw [t__law_web_11_eq] | rw [t__law_web_12_eq]
  simp_all only [t__law_web_2_eq,t__law_web_7_eq,t__law_web_8_eq,t__law_web_9_eq,t__law_web_10_eq,tVar]
  refine ⟨p, ns, st, rfl, hS, hl, st0, by omega, fun r2 r20 r21 => ?_⟩
  refine ⟨_, rfl, by omega, log_lt 6 (by omega) (show mo.natAbs < 64 by omega), by decide, ?_⟩
  have sh0 : 0 ≤ r2 / mo % 4 := by omega
  have sh4 : r2 / mo % 4 < 4 := by omega
  generalize r2 / mo % 4 = shp at sh0 sh4 ⊢
  refine ⟨by decide, fun lab hlab => ?_⟩
  (try simp only); first | rw [t__law_web_0_eq] | rw [t__law_web_1_eq] | rw [t__law_web_3_eq] | rw [t__law_web_4_eq] | rw [t__law_web_5_eq] | rw [t__law_web_6_eq] | rw [t__law_web_11_eq] | rw [t__law_web_12_eq]
  simp_all only [t__law_web_2_eq,t__law_web_7_eq,t__law_web_8_eq,t__law_web_9_eq,t__law_web_10_eq,tVar]
  refine ⟨by decide, by decide, by omega, by omega, fun rg hrg => ⟨1, m, upd_same, by decide, by decide, by omega, by omega, by omega, fun lef hlef => ?_⟩⟩
  refine ⟨by omega, by omega, ?_⟩
  have hlef0 : H lef = none := ((Same.refl H).add hlab).add hrg |>.free hlef
  have hne : lab ≠ lef := ne_of_none (show (L2.upd (L2.upd H lab (.lst [V.int 0])) rg (.rng 1 m)) lab = some (.lst [V.int 0]) by rw [upd_ne (ne_of_none upd_same hrg)]; exact upd_same) hlef
  refine for_rangeF (fun i σ H' => Same H H' ∧ ∃ (ls lf : List Int) (x : Option V), H' lab = some (.lst (ls.map V.int)) ∧ H' lef = some (.lst (lf.map V.int)) ∧ (ls ++ lf).Perm (upto m) ∧ ls.length = i + 1 ∧ ls[0]? = some 0 ∧
    σ = [some (.ref p), some (.int st), some (.int mo), some (.int ex), some (.int m), some (.int shp), some (.ref lab), some (.ref lef), x, none, none, none, none, none, none, none]) ?_ ?_ ?_
  · refine ⟨(((Same.refl H).add hlab).add hrg).add hlef, [0], (List.range (m - 1).toNat).map (fun k : Nat => 1 + (k : Int)), _, ?_, ?_, ?_, rfl, rfl, rfl⟩
    · rw [upd_ne hne, upd_ne (ne_of_none upd_same hrg)]
      exact upd_same
    · rw [upd_same, List.map_map]
      rfl
    · rw [ints_cons m1]
      exact .refl _
  · rintro i σ H1 hi ⟨s1, ls, lf, x, h1, h2, hp, ll, l0, rfl⟩
    have lt : ls.length + lf.length = m.toNat := by
      have := hp.length_eq
      rw [List.length_append] at this
      rw [this]
      unfold upto
      rw [List.length_map, List.length_range]
    simp_all only [t__law_web_2_eq,t__law_web_7_eq,t__law_web_8_eq,t__law_web_9_eq,t__law_web_10_eq,tVar]
    refine ⟨.inl ⟨rfl, _, SqL.of h1⟩, .inl ⟨rfl, _, SqL.of h2⟩, ?_⟩
    refine ⟨p, ns, _, rfl, s1.seq hS, hl, by omega, by omega, fun r3 r30 r31 => ?_⟩
    refine ⟨_, .inl (SqL.of h2), _, rfl, ?_⟩
    rw [List.length_map]
    have z0 := Int.emod_nonneg r3 (show (lf.length : Int) ≠ 0 by omega)
    have z1 := Int.emod_lt_of_pos r3 (show 0 < (lf.length : Int) by omega)
    generalize r3 % (lf.length : Int) = k at z0 z1
    have hk : k.toNat < lf.length := by omega
    have ek : lf[k.toNat]? = some lf[k.toNat] := List.getElem?_eq_getElem hk
    refine ⟨by omega, _, h2, by omega, by omega, _, seqIx z0 (by rw [List.length_map]; exact z1), .int lf[k.toNat], by rw [List.getElem?_map, ek]; rfl, _, by rw [upd_ne hne]; exact h1, small1000 (by rw [List.length_map]; omega), ?_, ls ++ [lf[k.toNat]], ?_, lf.eraseIdx k.toNat, ?_, ?_, by rw [List.length_append, ll]; rfl, ?_⟩
    · exact (s1.put hlef0).put hlab
    · rw [upd_same, List.map_append]
      rfl
    · rw [upd_ne hne.symm, upd_same, erase_map]
    · rw [List.append_assoc]
      exact (List.Perm.append_left ls (erase_perm ek)).trans hp
    · rw [List.getElem?_append_left (by omega)]
      exact l0
  · rintro σ H1 ⟨s1, ls, lf, x, h1, h2, hp, ll, l0, rfl⟩
    have lt : ls.length + lf.length = m.toNat := by
      have := hp.length_eq
      rw [List.length_append] at this
      rw [this]
      unfold upto
      rw [List.length_map, List.length_range]
    have lf0 : lf = [] := List.eq_nil_of_length_eq_zero (by omega)
    rw [lf0, List.append_nil] at hp
    have gl : ∀ x ∈ ls, 0 ≤ x ∧ x < m := fun x hx => mem_ints.mp (hp.mem_iff.mp hx)
    have nd : ls.Nodup := hp.nodup_iff.mpr nodup_ints
    clear h2
    simp_all only [t__law_web_2_eq,t__law_web_7_eq,t__law_web_8_eq,t__law_web_9_eq,t__law_web_10_eq,tVar]
    refine ⟨by decide, fun rl hrl => ?_⟩
    refine ⟨by decide, by decide, by omega, by omega, ?_⟩
    have n1 : rl ≠ lab := (ne_of_none h1 hrl).symm
    refine for_rangeF (fun i σ H' => Same H1 H' ∧ ∃ (ts : List Addr) (rs : List Road), H' rl = some (.lst (ts.map V.ref)) ∧ Tps rdv (Off rl rl H') ts rs ∧ rs.length = i ∧ (∀ r ∈ rs, GR m r) ∧ Joins ls rs i ∧
      ∃ x1 x2 x3 x4 x5, σ = [some (.ref p), some (.int st), some (.int mo), some (.int ex), some (.int m), some (.int shp), some (.ref lab), some (.ref lef), x1, some (.ref rl), x2, x3, x4, x5, none, none]) ?_ ?_ ?_
    · exact ⟨same_new hrl _, [], [], upd_same, .nil, rfl, by simp, fun k k1 k2 => by omega, _, _, _, _, _, rfl⟩
    · rintro i σ H2 hi ⟨s2, ts, rs, hr2, ht2, lr, gr, jn, x1, x2, x3, x4, x5, rfl⟩
      have hS2 := s2.seq (s1.seq hS)
      simp_all only [t__law_web_2_eq,t__law_web_7_eq,t__law_web_8_eq,t__law_web_9_eq,t__law_web_10_eq,tVar]
      refine ⟨p, ns, _, rfl, hS2, hl, by omega, by omega, fun n n0 n1' => ?_⟩
      have em : (if (3 : Int) < 1 + (i : Int) then (3 : Int) else 1 + (i : Int)) ≤ 1 + (i : Int) ∧ 0 < (if (3 : Int) < 1 + (i : Int) then (3 : Int) else 1 + (i : Int)) := by split <;> omega
      (try simp only); first | rw [t__law_web_0_eq] | rw [t__law_web_1_eq] | rw [t__law_web_3_eq] | rw [t__law_web_4_eq] | rw [t__law_web_5_eq] | rw [t__law_web_6_eq] | rw [t__law_web_11_eq] | rw [t__law_web_12_eq]
      simp_all only [t__law_web_2_eq,t__law_web_7_eq,t__law_web_8_eq,t__law_web_9_eq,t__law_web_10_eq,tVar]
      generalize (if (3 : Int) < 1 + (i : Int) then (3 : Int) else 1 + (i : Int)) = mn at em ⊢
      refine ⟨by omega, em.2, by decide, fun a1 ha1 => ?_⟩
      have s3 := same_new ha1 (.lst [V.int (n % (1 + (i : Int))), V.int (1 + (i : Int) - 1), V.int 0, V.int (n % mn)])
      have h3 : (L2.upd H2 a1 (.lst [V.int (n % (1 + (i : Int))), V.int (1 + (i : Int) - 1), V.int 0, V.int (n % mn)])) a1 = some (.lst [V.int (n % (1 + (i : Int))), V.int (1 + (i : Int) - 1), V.int 0, V.int (n % mn)]) := upd_same
      generalize L2.upd H2 a1 (.lst [V.int (n % (1 + (i : Int))), V.int (1 + (i : Int) - 1), V.int 0, V.int (n % mn)]) = H3 at s3 h3 ⊢
      obtain ⟨jx, hj, hjc⟩ := at4 (a := n % (1 + (i : Int))) (b := 1 + (i : Int) - 1) (c := 0) (d := n % mn) sh0 sh4
      have j0 : 0 ≤ jx ∧ jx < 1 + (i : Int) := by
        have z1 := Int.emod_nonneg n (show (1 + (i : Int)) ≠ 0 by omega)
        have z2 := Int.emod_lt_of_pos n (show 0 < (1 + (i : Int)) by omega)
        have z3 := Int.emod_nonneg n (show mn ≠ 0 by omega)
        have z4 := Int.emod_lt_of_pos n (show 0 < mn by omega)
        omega
      clear hjc
      obtain ⟨ot, ho, ho2⟩ := at_int (ns := ls) j0.1 (by omega)
      obtain ⟨me, hm, hm2⟩ := at_int (ns := ls) (k := 1 + (i : Int)) (by omega) (by omega)
      have h13 := s3 _ _ (s2 _ _ h1)
      refine ⟨_, SqL.of h3, _, hj, _, _, rfl, SqL.of h13, _, ho, ?_⟩
      (try simp only); first | rw [t__law_web_0_eq] | rw [t__law_web_1_eq] | rw [t__law_web_3_eq] | rw [t__law_web_4_eq] | rw [t__law_web_5_eq] | rw [t__law_web_6_eq] | rw [t__law_web_11_eq] | rw [t__law_web_12_eq]
      simp_all only [t__law_web_2_eq,t__law_web_7_eq,t__law_web_8_eq,t__law_web_9_eq,t__law_web_10_eq,tVar]
      refine ⟨_, SqL.of h13, _, hm, by decide, fun a2 ha2 => ?_⟩
      have s4 := same_new ha2 (.tup [V.int me, V.int ot])
      have h4 : (L2.upd H3 a2 (.tup [V.int me, V.int ot])) a2 = some (.tup [V.int me, V.int ot]) := upd_same
      generalize L2.upd H3 a2 (.tup [V.int me, V.int ot]) = H4 at s4 h4 ⊢
      have h14 := s4 _ _ h13
      refine ⟨_, SqL.of h14, _, hm, by decide, fun a3 ha3 => ?_⟩
      have s5 := same_new ha3 (.tup [V.int ot, V.int me])
      have h5 : (L2.upd H4 a3 (.tup [V.int ot, V.int me])) a3 = some (.tup [V.int ot, V.int me]) := upd_same
      generalize L2.upd H4 a3 (.tup [V.int ot, V.int me]) = H5 at s5 h5 ⊢
      refine ⟨by decide, fun a4 ha4 => ?_⟩
      have s6 := same_new ha4 (.lst [V.ref a2, V.ref a3])
      have h6 : (L2.upd H5 a4 (.lst [V.ref a2, V.ref a3])) a4 = some (.lst [V.ref a2, V.ref a3]) := upd_same
      generalize L2.upd H5 a4 (.lst [V.ref a2, V.ref a3]) = H6 at s6 h6 ⊢
      obtain ⟨e, he, hec⟩ := at2 (x := V.ref a2) (y := V.ref a3) (r := n / (1 + (i : Int)) % 2) (by omega) (by omega)
      obtain ⟨ea, u, v, rfl, hea, huv⟩ : ∃ (ea : Addr) (u v : Int), e = .ref ea ∧ H6 ea = some (.tup [V.int u, V.int v]) ∧ ((u = me ∧ v = ot) ∨ (u = ot ∧ v = me)) := by
        rcases hec with rfl | rfl
        · exact ⟨a2, me, ot, rfl, s6 _ _ (s5 _ _ h4), .inl ⟨rfl, rfl⟩⟩
        · exact ⟨a3, ot, me, rfl, s6 _ _ h5, .inr ⟨rfl, rfl⟩⟩
      have s26 := s3.trans (s4.trans (s5.trans s6))
      have hr6 := s26 _ _ hr2
      have ht6 := ht2.same (off_same rl rl s26)
      have gme := gl me (mem_at hm2)
      have got := gl ot (mem_at ho2)
      have dif : ot ≠ me := nodup_at nd ho2 hm2 (by omega)
      refine ⟨by omega, log_lt 6 (by omega) (show (1 + (i : Int)).natAbs < 64 by omega), by decide, _, SqL.of h6, _, he, ?_⟩
      (try simp only); first | rw [t__law_web_0_eq] | rw [t__law_web_1_eq] | rw [t__law_web_3_eq] | rw [t__law_web_4_eq] | rw [t__law_web_5_eq] | rw [t__law_web_6_eq] | rw [t__law_web_11_eq] | rw [t__law_web_12_eq]
      simp_all only [t__law_web_2_eq,t__law_web_7_eq,t__law_web_8_eq,t__law_web_9_eq,t__law_web_10_eq,tVar]
      refine ⟨p, ns, _, rfl, s26.seq hS2, hl, by omega, by omega, fun n3 n30 n31 => ?_⟩
      refine ⟨_, .inl (SqL.of hr6), _, rfl, by omega, ?_⟩
      rw [List.length_map]
      have z0 := Int.emod_nonneg n3 (show (ts.length : Int) + 1 ≠ 0 by omega)
      have z1 := Int.emod_lt_of_pos n3 (show 0 < (ts.length : Int) + 1 by omega)
      generalize n3 % ((ts.length : Int) + 1) = k at z0 z1
      (try simp only); first | rw [t__law_web_0_eq] | rw [t__law_web_1_eq] | rw [t__law_web_3_eq] | rw [t__law_web_4_eq] | rw [t__law_web_5_eq] | rw [t__law_web_6_eq] | rw [t__law_web_11_eq] | rw [t__law_web_12_eq]
      simp_all only [t__law_web_2_eq,t__law_web_7_eq,t__law_web_8_eq,t__law_web_9_eq,t__law_web_10_eq,tVar]
      refine ⟨.inl ⟨rfl, _, SqL.of hr6⟩, by omega, log_lt 6 (by omega) (show (1 + (i : Int)).natAbs < 64 by omega), log2'.1, log2'.2, ?_⟩
      refine ⟨_, rfl, fun le H7 s7 le1 le2 => ⟨by decide, fun a5 ha5 => ?_⟩⟩
      have s8 := same_new ha5 (.tup [V.int le])
      have h8 : (L2.upd H7 a5 (.tup [V.int le])) a5 = some (.tup [V.int le]) := upd_same
      generalize L2.upd H7 a5 (.tup [V.int le]) = H8 at s8 h8 ⊢
      have s68 := s7.trans s8
      refine ⟨_, SqT.of (s68 _ _ hea), _, SqT.of h8, by simp, (show (3 : Nat) ≤ sizeLine by decide), fun z => by simp at z, fun _ a6 ha6 => ?_⟩
      rw [List.cons_append, List.cons_append, List.nil_append]
      have s9 := same_new ha6 (.tup [V.int u, V.int v, V.int le])
      have h9 : (L2.upd H8 a6 (.tup [V.int u, V.int v, V.int le])) a6 = some (.tup [V.int u, V.int v, V.int le]) := upd_same
      generalize L2.upd H8 a6 (.tup [V.int u, V.int v, V.int le]) = H9 at s9 h9 ⊢
      have s69 := s68.trans s9
      have hr9 := s69 _ _ hr6
      have ht9 := ht6.same (off_same rl rl s69)
      have ltl := ht9.1
      have big : (1000 : Nat) < 1000000 := by decide
      refine ⟨_, hr9, z0, by rw [List.length_map]; omega, by rw [List.length_map]; omega, ?_⟩
      have n6 : a6 ≠ rl := (ne_of_none (s68 _ _ hr6) ha6).symm
      have h9' : Off rl rl H9 a6 = some (.tup (rdv (u, v, le))) := by rw [off_at n6 n6]; exact h9
      refine ⟨?_, insAt ts k.toNat a6, ?_, insAt rs k.toNat (u, v, le), ?_, ?_, fun r hr => ?_, ?_⟩
      · exact (s2.trans (s26.trans s69)).put hrl
      · rw [upd_same, insAt_map]
        rfl
      · rw [off_p]
        exact ht9.ins (by omega) h9'
      · rw [insAt_len (by omega), lr]
      · rcases insAt_mem.mp hr with rfl | hr
        · unfold GR
          rcases huv with ⟨rfl, rfl⟩ | ⟨rfl, rfl⟩
          · exact ⟨gme.1, gme.2, got.1, got.2, dif.symm, le1, le2⟩
          · exact ⟨got.1, got.2, gme.1, gme.2, dif, le1, le2⟩
        · exact gr r hr
      · intro k' k1 k2
        by_cases c : k' ≤ i
        · obtain ⟨r, hr, w⟩ := jn k' k1 c
          exact ⟨r, insAt_mem.mpr (.inr hr), w⟩
        · have ek' : k' = i + 1 := by omega
          subst ek'
          refine ⟨(u, v, le), insAt_mem.mpr (.inl rfl), jx.toNat, by omega, ?_⟩
          have hm3 : ls[i + 1]? = some me := by
            have := hm2
            rw [show (1 + (i : Int)).toNat = i + 1 by omega] at this
            exact this
          rcases huv with ⟨rfl, rfl⟩ | ⟨rfl, rfl⟩
          · exact .inl ⟨hm3, ho2⟩
          · exact .inr ⟨hm3, ho2⟩
    · rintro σ H2 ⟨s2, ts, rs, hr2, ht2, lr, gr, jn, x1, x2, x3, x4, x5, rfl⟩
      have hS2 := s2.seq (s1.seq hS)
      have emn : m = ((m - 1).toNat : Int) + 1 := by omega
      simp_all only [t__law_web_2_eq,t__law_web_7_eq,t__law_web_8_eq,t__law_web_9_eq,t__law_web_10_eq,tVar]
      refine ⟨p, ns, _, rfl, hS2, hl, by omega, by omega, fun n n0 n1' => ?_⟩
      have z0 := Int.emod_nonneg n (show ex + 1 ≠ 0 by omega)
      have z1 := Int.emod_lt_of_pos n (show 0 < ex + 1 by omega)
      refine ⟨_, rfl, by omega, by omega, by omega, ?_⟩
      generalize n % (ex + 1) = cnt at z0 z1 ⊢
      refine for_rangeF (fun i σ H' => Same H1 H' ∧ ∃ (ts : List Addr) (rs : List Road), H' rl = some (.lst (ts.map V.ref)) ∧ Tps rdv (Off rl rl H') ts rs ∧ m - 1 ≤ (rs.length : Int) ∧ (rs.length : Int) ≤ m - 1 + i ∧ (∀ r ∈ rs, GR m r) ∧ Joins ls rs (m - 1).toNat ∧
        ∃ x1 x2 x3 x4 x5 x6 x7, σ = [some (.ref p), some (.int st), some (.int mo), some (.int ex), some (.int m), some (.int shp), some (.ref lab), some (.ref lef), x1, some (.ref rl), x2, x3, x4, x5, x6, x7]) ?_ ?_ ?_
      · exact ⟨s2, ts, rs, hr2, ht2, by omega, by omega, gr, jn, _, _, _, _, _, _, _, rfl⟩
      · rintro i σ H3 hi ⟨s3, ts, rs, hr3, ht3, lr1, lr2, gr, jn, y1, y2, y3, y4, y5, y6, y7, rfl⟩
        have hS3 := s3.seq (s1.seq hS)
        have lt3 := ht3.1
        simp_all only [t__law_web_2_eq,t__law_web_7_eq,t__law_web_8_eq,t__law_web_9_eq,t__law_web_10_eq,tVar]
        refine ⟨p, ns, _, rfl, hS3, hl, by omega, by omega, fun n2 n20 n21 => ?_⟩
        (try simp only); first | rw [t__law_web_0_eq] | rw [t__law_web_1_eq] | rw [t__law_web_3_eq] | rw [t__law_web_4_eq] | rw [t__law_web_5_eq] | rw [t__law_web_6_eq] | rw [t__law_web_11_eq] | rw [t__law_web_12_eq]
        simp_all only [t__law_web_2_eq,t__law_web_7_eq,t__law_web_8_eq,t__law_web_9_eq,t__law_web_10_eq,tVar]
        refine ⟨by omega, by omega, log_lt 6 (by omega) (show m.natAbs < 64 by omega), by omega, ?_⟩
        have a0 := Int.emod_nonneg n2 (show m ≠ 0 by omega)
        have a1 := Int.emod_lt_of_pos n2 (show 0 < m by omega)
        have b0 := Int.emod_nonneg (n2 / m) (show m ≠ 0 by omega)
        have b1 := Int.emod_lt_of_pos (n2 / m) (show 0 < m by omega)
        generalize n2 % m = av at a0 a1
        generalize n2 / m % m = bv at b0 b1
        (try simp only); first | rw [t__law_web_0_eq] | rw [t__law_web_1_eq] | rw [t__law_web_3_eq] | rw [t__law_web_4_eq] | rw [t__law_web_5_eq] | rw [t__law_web_6_eq] | rw [t__law_web_11_eq] | rw [t__law_web_12_eq]
        simp_all only [t__law_web_2_eq,t__law_web_7_eq,t__law_web_8_eq,t__law_web_9_eq,t__law_web_10_eq,tVar]
        refine ite2 (fun c => ?_) (fun c => ⟨s3, ts, hr3, rs, ht3, lr1, by omega, gr, jn⟩)
        refine ⟨.inl ⟨rfl, _, SqL.of hr3⟩, log3600.1, log3600.2, _, .inl (SqL.of hr3), by omega, log100.1, log100.2, ?_⟩
        rw [List.length_map]
        have k0 := Int.emod_nonneg (n2 / 3600) (show (ts.length : Int) + 1 ≠ 0 by omega)
        have k1 := Int.emod_lt_of_pos (n2 / 3600) (show 0 < (ts.length : Int) + 1 by omega)
        generalize n2 / 3600 % ((ts.length : Int) + 1) = k at k0 k1
        refine ⟨_, rfl, fun le H7 s7 le1 le2 => ⟨by decide, fun a6 ha6 => ?_⟩⟩
        have s9 := same_new ha6 (.tup [V.int av, V.int bv, V.int le])
        have h9 : (L2.upd H7 a6 (.tup [V.int av, V.int bv, V.int le])) a6 = some (.tup [V.int av, V.int bv, V.int le]) := upd_same
        generalize L2.upd H7 a6 (.tup [V.int av, V.int bv, V.int le]) = H9 at s9 h9 ⊢
        have s69 := s7.trans s9
        have hr9 := s69 _ _ hr3
        have ht9 := ht3.same (off_same rl rl s69)
        have ltl := ht9.1
        have big : (1000 : Nat) < 1000000 := by decide
        refine ⟨_, hr9, k0, by rw [List.length_map]; omega, by rw [List.length_map]; omega, ?_⟩
        have n6 : a6 ≠ rl := (ne_of_none (s7 _ _ hr3) ha6).symm
        have h9' : Off rl rl H9 a6 = some (.tup (rdv (av, bv, le))) := by rw [off_at n6 n6]; exact h9
        refine ⟨(s3.trans s69).put hrl, insAt ts k.toNat a6, ?_, insAt rs k.toNat (av, bv, le), ?_, ?_, ?_, fun r hr => ?_, ?_⟩
        · rw [upd_same, insAt_map]
          rfl
        · rw [off_p]
          exact ht9.ins (by omega) h9'
        · rw [insAt_len (by omega)]
          omega
        · rw [insAt_len (by omega)]
          omega
        · rcases insAt_mem.mp hr with rfl | hr
          · exact ⟨a0, a1, b0, b1, c, le1, le2⟩
          · exact gr r hr
        · exact jn.mono fun r hr => insAt_mem.mpr (.inr hr)
      · rintro σ H3 ⟨s3, ts, rs, hr3, ht3, lr1, lr2, gr, jn, y1, y2, y3, y4, y5, y6, y7, rfl⟩
        simp_all only [t__law_web_2_eq,t__law_web_7_eq,t__law_web_8_eq,t__law_web_9_eq,t__law_web_10_eq,tVar]
        refine ⟨by decide, fun w hw => ?_⟩
        refine q w rl ts m rs _ ((s1.trans s3).add hw) ⟨upd_same, same_new hw _ _ _ hr3, (ht3.same (off_le rl rl H3)).same (same_new hw _)⟩ ⟨m1, by omega, by omega, gr, jn.conn emn hp l0⟩ m2 (by omega) lr1
theorem sc__law_web : FnScope ["_law_script", "_law_start", "_law_most", "_law_extra", "_law_many", "_law_shape", "_law_labels", "_law_left", "_law_k", "_law_roads", "_law_number", "_law_other", "_law_ends", "_law_at", "_law_a", "_law_b"] ["_law_script", "_law_start", "_law_most", "_law_extra"] (defScope s__law_web) := ⟨rfl, rfl, rfl, by decide +kernel, rfl, by decide +kernel, by decide +kernel⟩
theorem ok__law_web (T : Txt K mg a) : FnOk P w K mg base CX0 2 a.f__law_web a.d__law_web ["_law_script", "_law_start", "_law_most", "_law_extra"] (spWeb K) := by
  have G__law_length := ok__law_length (P := P) (w := w) (base := base) T
  have G__law_mixed := ok__law_mixed (P := P) (w := w) (base := base) T
  refine T.F__law_web.ok sc__law_web (fun vs H Q E h => ?_) (fun cdv A outer s H vs Q E hr h => ?_)
  · obtain ⟨p, ns, st, mo, ex, rfl, hS, hl, st0, st1, mo1, mo60, ex0, ex20, q⟩ := h
    rfl
  obtain ⟨p, ns, st, mo, ex, rfl, hS, hl, st0, st1, mo1, mo60, ex0, ex20, q⟩ := h
  exact ⟨t__law_web K, (pss_cons (ps_set (i := 4) sc__law_web.nd rfl (Or.inl rfl) (pe_op op_add pe_int (pe_op op_mod (pe_call G__law_mixed (hr.mono (by decide)) rfl T.m__law_mixed T.F__law_mixed.kp T.b__law_mixed .nil pass0 (pa_cons (pv 0) (pa_cons (pv 1) pa_nil))) (pv 2))))
  (pss_cons (ps_set (i := 5) sc__law_web.nd rfl (Or.inl rfl) (pe_op op_mod (pe_op op_fdivP (pe_call G__law_mixed (hr.mono (by decide)) rfl T.m__law_mixed T.F__law_mixed.kp T.b__law_mixed .nil pass0 (pa_cons (pv 0) (pa_cons (pv 1) pa_nil))) (pv 2)) pe_int))
  (pss_cons (ps_set (i := 6) sc__law_web.nd rfl (Or.inl rfl) (pe_lst (pa_cons pe_int pa_nil)))
  (pss_cons (ps_set (i := 7) sc__law_web.nd rfl (Or.inl rfl) (pe_callTy (call_list_rng rfl) rfl T.z_list boot_list (pa_cons (pe_rng2 rfl T.z_range (pa_cons pe_int (pa_cons (pv 4) pa_nil))) pa_nil)))
  (pss_cons (ps_for PassesOwn.never rfl (pi_range1 rfl T.z_range (pa_cons (pe_op op_sub (pv 4) pe_int) pa_nil)) (pg_name (i := 8) sc__law_web.nd rfl (Or.inl rfl))
  (pss_one (ps_expr (pe_bm PySem.F.plainAttrs_list PySem.F.slot_list_append PySem.F.type_list_append mt_append (pv 6) (pa_cons (pe_bm PySem.F.plainAttrs_list PySem.F.slot_list_pop PySem.F.type_list_pop mt_popAt (pv 7) (pa_cons (pe_op op_mod (pe_call G__law_mixed (hr.mono (by decide)) rfl T.m__law_mixed T.F__law_mixed.kp T.b__law_mixed .nil pass0 (pa_cons (pv 0) (pa_cons (pe_op op_add (pe_op op_add (pv 1) pe_int) (pv 8)) pa_nil))) (pe_callB call_len_seq rfl T.z_len PySem.boot_len (pa_cons (pv 7) pa_nil))) pa_nil)) pa_nil)))))
  (pss_cons (ps_set (i := 9) sc__law_web.nd rfl (Or.inl rfl) (pe_lst pa_nil))
  (pss_cons (ps_for PassesOwn.never rfl (pi_range2 rfl T.z_range (pa_cons pe_int (pa_cons (pv 4) pa_nil))) (pg_name (i := 8) sc__law_web.nd rfl (Or.inl rfl))
  (pss_cons (ps_set (i := 10) sc__law_web.nd rfl (Or.inl rfl) (pe_call G__law_mixed (hr.mono (by decide)) rfl T.m__law_mixed T.F__law_mixed.kp T.b__law_mixed .nil pass0 (pa_cons (pv 0) (pa_cons (pe_op op_add (pe_op op_add (pv 1) pe_int) (pv 8)) pa_nil))))
  (pss_cons (ps_set (i := 11) sc__law_web.nd rfl (Or.inl rfl) (pe_ix ix_list (pv 6) (pe_ix ix_list (pe_lst (pa_cons (pe_op op_mod (pv 10) (pv 8)) (pa_cons (pe_op op_sub (pv 8) pe_int) (pa_cons pe_int (pa_cons (pe_op op_mod (pv 10) (pe_callB (call_min2 rfl) rfl T.z_min PyProof.Rows.boot_min (pa_cons (pv 8) (pa_cons pe_int pa_nil)))) pa_nil))))) (pv 5) (fun _ _ => rfl)) (fun _ _ => rfl)))
  (pss_cons (ps_set (i := 12) sc__law_web.nd rfl (Or.inl rfl) (pe_ix ix_list (pe_lst (pa_cons (pe_tup (pa_cons (pe_ix ix_list (pv 6) (pv 8) (fun _ _ => rfl)) (pa_cons (pv 11) pa_nil))) (pa_cons (pe_tup (pa_cons (pv 11) (pa_cons (pe_ix ix_list (pv 6) (pv 8) (fun _ _ => rfl)) pa_nil))) pa_nil))) (pe_op op_mod (pe_op op_fdivP (pv 10) (pv 8)) pe_int) (fun _ _ => rfl)))
  (pss_cons (ps_set (i := 13) sc__law_web.nd rfl (Or.inl rfl) (pe_op op_mod (pe_call G__law_mixed (hr.mono (by decide)) rfl T.m__law_mixed T.F__law_mixed.kp T.b__law_mixed .nil pass0 (pa_cons (pv 0) (pa_cons (pe_op op_add (pe_op op_add (pv 1) pe_int) (pv 8)) pa_nil))) (pe_op op_add (pe_callB call_len_seq rfl T.z_len PySem.boot_len (pa_cons (pv 9) pa_nil)) pe_int)))
  (pss_one (ps_expr (pe_bm PySem.F.plainAttrs_list PySem.F.slot_list_insert PySem.F.type_list_insert mt_insert (pv 9) (pa_cons (pv 13) (pa_cons (pe_op op_catT (pv 12) (pe_tup (pa_cons (pe_call G__law_length (hr.mono (by decide)) rfl T.m__law_length T.F__law_length.kp T.b__law_length .nil pass0 (pa_cons (pe_op op_fdivP (pe_op op_fdivP (pv 10) (pv 8)) pe_int) pa_nil)) pa_nil))) pa_nil))))))))))
  (pss_cons (ps_for PassesOwn.never rfl (pi_range1 rfl T.z_range (pa_cons (pe_op op_mod (pe_call G__law_mixed (hr.mono (by decide)) rfl T.m__law_mixed T.F__law_mixed.kp T.b__law_mixed .nil pass0 (pa_cons (pv 0) (pa_cons (pe_op op_add (pv 1) pe_int) pa_nil))) (pe_op op_add (pv 3) pe_int)) pa_nil)) (pg_name (i := 8) sc__law_web.nd rfl (Or.inl rfl))
  (pss_cons (ps_set (i := 10) sc__law_web.nd rfl (Or.inl rfl) (pe_call G__law_mixed (hr.mono (by decide)) rfl T.m__law_mixed T.F__law_mixed.kp T.b__law_mixed .nil pass0 (pa_cons (pv 0) (pa_cons (pe_op op_add (pe_op op_add (pv 1) pe_int) (pv 8)) pa_nil))))
  (pss_cons (ps_par (i := 14) (j := 15) rfl sc__law_web.nd rfl rfl (by decide) rfl rfl (pa_cons (pe_op op_mod (pv 10) (pv 4)) (pa_cons (pe_op op_mod (pe_op op_fdivP (pv 10) (pv 4)) (pv 4)) pa_nil)) rfl)
  (pss_one (ps_if (pt_cmpR op_ne (pv 14) (pv 15) (nomark _)) (pss_one (ps_expr (pe_bm PySem.F.plainAttrs_list PySem.F.slot_list_insert PySem.F.type_list_insert mt_insert (pv 9) (pa_cons (pe_op op_mod (pe_op op_fdivP (pv 10) pe_int) (pe_op op_add (pe_callB call_len_seq rfl T.z_len PySem.boot_len (pa_cons (pv 9) pa_nil)) pe_int)) (pa_cons (pe_tup (pa_cons (pv 14) (pa_cons (pv 15) (pa_cons (pe_call G__law_length (hr.mono (by decide)) rfl T.m__law_length T.F__law_length.kp T.b__law_length .nil pass0 (pa_cons (pe_op op_fdivP (pv 10) pe_int) pa_nil)) pa_nil)))) pa_nil))))) pss_nil)))))
  (pss_one (ps_ret (pe_tup (pa_cons (pv 4) (pa_cons (pv 9) pa_nil))))))))))))),
    rd__law_web hS hl st0 st1 mo1 mo60 ex0 ex20 q⟩
def spAnyWeb (K : PySem.W.Frag) : Sp := fun vs H Q _ => ∃ (p : Addr) (ns : List Int) (st : Int), vs = [.ref p, .int st] ∧ SqL K H p (ns.map V.int) ∧ ns.length ≤ 63 ∧ 0 ≤ st ∧ st ≤ 9000 ∧
  ∀ (w rl : Addr) (ts : List Addr) (m : Int) (rs : List Road) (H' : Hp), Same H H' → WebH H' w rl ts m rs → GW m rs → Q (.ref w) H'
def t__law_any_web_0 (K : PySem.W.Frag) : TS :=
  (tIfS (tTest (tOp rEq (tOp (rI (fun _ j => 0 < j) fun i j => .int (i % j)) (tCall (spMixed K) [] E0 (tCons (tVar 0) (tCons (tOp (rI0 fun i j => .int (i + j)) (tVar 1) (tC (.int 199))) tNil))) (tC (.int 4))) (tC (.int 1)))) (tRet (tCall (spWeb K) [] E0 (tCons (tVar 0) (tCons (tVar 1) (tCons (tC (.int 60)) (tCons (tC (.int 15)) tNil)))))) tNext)
theorem t__law_any_web_0_eq (K : PySem.W.Frag) (D : Ends) (σ : St) (H : Hp) : t__law_any_web_0 K D σ H = (tIfS (tTest (tOp rEq (tOp (rI (fun _ j => 0 < j) fun i j => .int (i % j)) (tCall (spMixed K) [] E0 (tCons (tVar 0) (tCons (tOp (rI0 fun i j => .int (i + j)) (tVar 1) (tC (.int 199))) tNil))) (tC (.int 4))) (tC (.int 1)))) (tRet (tCall (spWeb K) [] E0 (tCons (tVar 0) (tCons (tVar 1) (tCons (tC (.int 60)) (tCons (tC (.int 15)) tNil)))))) tNext) D σ H := rfl
def t__law_any_web (K : PySem.W.Frag) : TS :=
  (tSeq (tCut (t__law_any_web_0 K))
  (tRet (tCall (spWeb K) [] E0 (tCons (tVar 0) (tCons (tVar 1) (tCons (tC (.int 12)) (tCons (tC (.int 6)) tNil)))))))
theorem rd__law_any_web {p : Addr} {ns : List Int} {st : Int} (hS : SqL K H p (ns.map V.int)) (hl : ns.length ≤ 63) (st0 : 0 ≤ st) (st1 : st ≤ 9000)
    (q : ∀ (w rl : Addr) (ts : List Addr) (m : Int) (rs : List Road) (H' : Hp), Same H H' → WebH H' w rl ts m rs → GW m rs → Q (.ref w) H') :
    t__law_any_web K { nx := fun _ H' => Q .non H', rt := Q } (L2.start ["_law_script", "_law_start"] [.ref p, .int st]) H := by
  unfold t__law_any_web
  simp_all only [t__law_any_web_0_eq,tVar]
  refine ⟨fun σ H' => H' = H ∧ σ = [some (.ref p), some (.int st)], ?_, ?_⟩
  · simp_all only [t__law_any_web_0_eq,tVar]
    refine ⟨p, ns, _, rfl, hS, hl, by omega, by omega, fun r r0 r1 => ?_⟩
    refine ⟨_, rfl, by decide, ite2 (fun _ => ?_) (fun _ => rfl)⟩
    exact ⟨p, ns, st, 60, 15, rfl, hS, hl, st0, by omega, by decide, by decide, by decide, by decide, fun w rl ts m rs H' s W G _ _ _ => q w rl ts m rs H' s W G⟩
  · rintro σ H' ⟨e, rfl⟩
    rw [e]
    simp_all only [t__law_any_web_0_eq,tVar]
    exact ⟨p, ns, st, 12, 6, rfl, hS, hl, st0, by omega, by decide, by decide, by decide, by decide, fun w rl ts m rs H' s W G _ _ _ => q w rl ts m rs H' s W G⟩
theorem sc__law_any_web : FnScope ["_law_script", "_law_start"] ["_law_script", "_law_start"] (defScope s__law_any_web) := ⟨rfl, rfl, rfl, by decide +kernel, rfl, by decide +kernel, by decide +kernel⟩
theorem ok__law_any_web (T : Txt K mg a) : FnOk P w K mg base CX0 3 a.f__law_any_web a.d__law_any_web ["_law_script", "_law_start"] (spAnyWeb K) := by
  have G__law_mixed := ok__law_mixed (P := P) (w := w) (base := base) T
  have G__law_web := ok__law_web (P := P) (w := w) (base := base) T
  refine T.F__law_any_web.ok sc__law_any_web (fun vs H Q E h => ?_) (fun cdv A outer s H vs Q E hr h => ?_)
  · obtain ⟨p, ns, st, rfl, hS, hl, st0, st1, q⟩ := h
    rfl
  obtain ⟨p, ns, st, rfl, hS, hl, st0, st1, q⟩ := h
  exact ⟨t__law_any_web K, (pss_cons (ps_cut (ps_if (pt_cmpR op_eq (pe_op op_mod (pe_call G__law_mixed (hr.mono (by decide)) rfl T.m__law_mixed T.F__law_mixed.kp T.b__law_mixed .nil pass0 (pa_cons (pv 0) (pa_cons (pe_op op_add (pv 1) pe_int) pa_nil))) pe_int) pe_int (nomark _)) (pss_one (ps_ret (pe_call G__law_web (hr.mono (by decide)) rfl T.m__law_web T.F__law_web.kp T.b__law_web .nil pass0 (pa_cons (pv 0) (pa_cons (pv 1) (pa_cons pe_int (pa_cons pe_int pa_nil))))))) pss_nil))
  (pss_one (ps_ret (pe_call G__law_web (hr.mono (by decide)) rfl T.m__law_web T.F__law_web.kp T.b__law_web .nil pass0 (pa_cons (pv 0) (pa_cons (pv 1) (pa_cons pe_int (pa_cons pe_int pa_nil)))))))),
    rd__law_any_web hS hl st0 st1 q⟩
theorem WebH.shows {w rl : Addr} {ts : List Addr} {m : Int} {rs : List Road} (h : WebH H w rl ts m rs) : Shows K H (2 + 1) (.tup [.int m, .lst (rs.map fun r => .tup [.int r.1, .int r.2.1, .int r.2.2])]) (.ref w) := by
  refine .tup (SqT.of h.hw) rfl fun i x t e1 e2 => ?_
  match i, e1, e2 with
  | 0, e1, e2 =>
    cases e1
    cases e2
    exact .int _
  | 1, e1, e2 =>
    cases e1
    cases e2
    refine .lst (SqL.of h.hl) (by rw [List.length_map, List.length_map, h.ht.1]) fun i x t e1 e2 => ?_
    obtain ⟨a, ha, rfl⟩ := map_at e1
    obtain ⟨b, hb, rfl⟩ := map_at e2
    refine .tup (SqT.of (h.ht.2 i a b ha hb)) rfl fun j y u f1 f2 => ?_
    match j, f1, f2 with
    | 0, f1, f2 =>
      cases f1
      cases f2
      exact .int _
    | 1, f1, f2 =>
      cases f1
      cases f2
      exact .int _
    | 2, f1, f2 =>
      cases f1
      cases f2
      exact .int _
def t__law_class_0 (K : PySem.W.Frag) : TS :=
  (tIfS (tOr (tTest (tOp rNe (tBM K "list" (rCount K) (tVar 1) (tCons (tC (.bl true)) tNil)) (tC (.int 1)))) (tNot (tB (tCB (rIsiV K) (tCons (tVar 0) (tCons (tC (.ty "ValueError")) tNil)))))) (tRet (tUn (rU fun i => .int (-i)) (tC (.int 2)))) tNext)
theorem t__law_class_0_eq (K : PySem.W.Frag) (D : Ends) (σ : St) (H : Hp) : t__law_class_0 K D σ H = (tIfS (tOr (tTest (tOp rNe (tBM K "list" (rCount K) (tVar 1) (tCons (tC (.bl true)) tNil)) (tC (.int 1)))) (tNot (tB (tCB (rIsiV K) (tCons (tVar 0) (tCons (tC (.ty "ValueError")) tNil)))))) (tRet (tUn (rU fun i => .int (-i)) (tC (.int 2)))) tNext) D σ H := rfl
def t__law_class_1 (K : PySem.W.Frag) (a : Ad) : TS :=
  (tSeq (tAsg (tLst (tCons (tCB (rIsiV K) (tCons (tVar 0) (tCons (tC (.ref a.c_NoWeb)) tNil))) (tCons (tCB (rIsiV K) (tCons (tVar 0) (tCons (tC (.ref a.c_NoPlan)) tNil))) (tCons (tCB (rIsiV K) (tCons (tVar 0) (tCons (tC (.ref a.c_NoText)) tNil))) tNil)))) (gName 1))
  (tSeq (tAsg (tOp rCat (tVar 1) (tLst (tCons (tCB (rIsiV K) (tCons (tVar 0) (tCons (tC (.ref a.c_NoKind)) tNil))) (tCons (tCB (rIsiV K) (tCons (tVar 0) (tCons (tC (.ref a.c_TooGreat)) tNil))) (tCons (tCB (rIsiV K) (tCons (tVar 0) (tCons (tC (.ref a.c_NoTree)) tNil))) tNil))))) (gName 1))
  (tSeq (tAsg (tOp rCat (tVar 1) (tLst (tCons (tCB (rIsiV K) (tCons (tVar 0) (tCons (tC (.ref a.c_NoWeights)) tNil))) (tCons (tCB (rIsiV K) (tCons (tVar 0) (tCons (tC (.ref a.c_NoTurns)) tNil))) (tCons (tCB (rIsiV K) (tCons (tVar 0) (tCons (tC (.ref a.c_NoNumber)) tNil))) tNil))))) (gName 1))
  (tSeq (tAsg (tOp rCat (tVar 1) (tLst (tCons (tCB (rIsiV K) (tCons (tVar 0) (tCons (tC (.ref a.c_NoBoxes)) tNil))) (tCons (tCB (rIsiV K) (tCons (tVar 0) (tCons (tC (.ref a.c_NoBudget)) tNil))) (tCons (tCB (rIsiV K) (tCons (tVar 0) (tCons (tC (.ref a.c_NoName)) tNil))) tNil))))) (gName 1))
  (tSeq (tAsg (tOp rCat (tVar 1) (tLst (tCons (tCB (rIsiV K) (tCons (tVar 0) (tCons (tC (.ref a.c_NoOrder)) tNil))) (tCons (tCB (rIsiV K) (tCons (tVar 0) (tCons (tC (.ref a.c_NoPlay)) tNil))) (tCons (tCB (rIsiV K) (tCons (tVar 0) (tCons (tC (.ref a.c_NoRoad)) tNil))) tNil))))) (gName 1))
  (tSeq (tAsg (tOp rCat (tVar 1) (tLst (tCons (tCB (rIsiV K) (tCons (tVar 0) (tCons (tC (.ref a.c_NoRow)) tNil))) (tCons (tCB (rIsiV K) (tCons (tVar 0) (tCons (tC (.ref a.c_NoTable)) tNil))) (tCons (tCB (rIsiV K) (tCons (tVar 0) (tCons (tC (.ref a.c_NoPaper)) tNil))) tNil))))) (gName 1))
  (tSeq (tCut (t__law_class_0 K))
  (tRet (tBM K "list" (rIndex K) (tVar 1) (tCons (tC (.bl true)) tNil))))))))))
theorem t__law_class_1_eq (K : PySem.W.Frag) (a : Ad) (D : Ends) (σ : St) (H : Hp) : t__law_class_1 K a D σ H = (tSeq (tAsg (tLst (tCons (tCB (rIsiV K) (tCons (tVar 0) (tCons (tC (.ref a.c_NoWeb)) tNil))) (tCons (tCB (rIsiV K) (tCons (tVar 0) (tCons (tC (.ref a.c_NoPlan)) tNil))) (tCons (tCB (rIsiV K) (tCons (tVar 0) (tCons (tC (.ref a.c_NoText)) tNil))) tNil)))) (gName 1))
  (tSeq (tAsg (tOp rCat (tVar 1) (tLst (tCons (tCB (rIsiV K) (tCons (tVar 0) (tCons (tC (.ref a.c_NoKind)) tNil))) (tCons (tCB (rIsiV K) (tCons (tVar 0) (tCons (tC (.ref a.c_TooGreat)) tNil))) (tCons (tCB (rIsiV K) (tCons (tVar 0) (tCons (tC (.ref a.c_NoTree)) tNil))) tNil))))) (gName 1))
  (tSeq (tAsg (tOp rCat (tVar 1) (tLst (tCons (tCB (rIsiV K) (tCons (tVar 0) (tCons (tC (.ref a.c_NoWeights)) tNil))) (tCons (tCB (rIsiV K) (tCons (tVar 0) (tCons (tC (.ref a.c_NoTurns)) tNil))) (tCons (tCB (rIsiV K) (tCons (tVar 0) (tCons (tC (.ref a.c_NoNumber)) tNil))) tNil))))) (gName 1))
  (tSeq (tAsg (tOp rCat (tVar 1) (tLst (tCons (tCB (rIsiV K) (tCons (tVar 0) (tCons (tC (.ref a.c_NoBoxes)) tNil))) (tCons (tCB (rIsiV K) (tCons (tVar 0) (tCons (tC (.ref a.c_NoBudget)) tNil))) (tCons (tCB (rIsiV K) (tCons (tVar 0) (tCons (tC (.ref a.c_NoName)) tNil))) tNil))))) (gName 1))
  (tSeq (tAsg (tOp rCat (tVar 1) (tLst (tCons (tCB (rIsiV K) (tCons (tVar 0) (tCons (tC (.ref a.c_NoOrder)) tNil))) (tCons (tCB (rIsiV K) (tCons (tVar 0) (tCons (tC (.ref a.c_NoPlay)) tNil))) (tCons (tCB (rIsiV K) (tCons (tVar 0) (tCons (tC (.ref a.c_NoRoad)) tNil))) tNil))))) (gName 1))
  (tSeq (tAsg (tOp rCat (tVar 1) (tLst (tCons (tCB (rIsiV K) (tCons (tVar 0) (tCons (tC (.ref a.c_NoRow)) tNil))) (tCons (tCB (rIsiV K) (tCons (tVar 0) (tCons (tC (.ref a.c_NoTable)) tNil))) (tCons (tCB (rIsiV K) (tCons (tVar 0) (tCons (tC (.ref a.c_NoPaper)) tNil))) tNil))))) (gName 1))
  (tSeq (tCut (t__law_class_0 K))
  (tRet (tBM K "list" (rIndex K) (tVar 1) (tCons (tC (.bl true)) tNil)))))))))) D σ H := rfl
def t__law_class_2 : TS :=
  (tIfS (tTest (tOp (fun x y H Q => y = .non ∧ Q (.bl (decide (x = .non))) H) (tVar 0) (tC .non))) (tRet (tUn (rU fun i => .int (-i)) (tC (.int 1)))) tNext)
theorem t__law_class_2_eq (D : Ends) (σ : St) (H : Hp) : t__law_class_2 D σ H = (tIfS (tTest (tOp (fun x y H Q => y = .non ∧ Q (.bl (decide (x = .non))) H) (tVar 0) (tC .non))) (tRet (tUn (rU fun i => .int (-i)) (tC (.int 1)))) tNext) D σ H := rfl
def t__law_class (K : PySem.W.Frag) (a : Ad) : TS :=
  (tSeq (tCut (t__law_class_2))
  (t__law_class_1 K a))
theorem isV {x dx : Addr} {d : V} {cv dv : Value} {b : Bool} (hc : clsV d = some dv) (h : H x = some (excVO x cv (some dx))) (k : ExcCls K cv) (e : PySem.W.kitOne K cv dv = some b) (q : Q (.bl b) H) : rIsiV K [.ref x, d] H Q := ⟨x, d, cv, _, dv, b, rfl, hc, h, k, e, q⟩
theorem rd__law_class {x : Addr} {d : Int} (I : Isa K a) (C : Cgt H a x d) (q : ∀ H', Same H H' → Q (.int 0) H') :
    t__law_class K a { nx := fun _ H' => Q .non H', rt := Q } (L2.start ["_law_caught_here", "_law_tests"] [.ref x]) H := by
  unfold t__law_class
  obtain ⟨dx, hx, _⟩ := C
  simp_all only [t__law_class_0_eq,t__law_class_1_eq,t__law_class_2_eq,tVar]
  refine ⟨fun σ H' => H' = H ∧ σ = [some (.ref x), none], ?_, ?_⟩
  · simp_all only [t__law_class_0_eq,t__law_class_1_eq,t__law_class_2_eq,tVar]
  rintro σ H' ⟨e, rfl⟩
  rw [e]
  simp_all only [t__law_class_0_eq,t__law_class_1_eq,t__law_class_2_eq,tVar]
  refine isV rfl hx I.ec I.k_NoWeb ?_
  refine isV rfl hx I.ec I.k_NoPlan ?_
  refine isV rfl hx I.ec I.k_NoText ?_
  refine ⟨by decide, fun p1 n1 => ?_⟩
  have sa1 := same_new n1 (HO.lst [V.bl true, V.bl false, V.bl false])
  have la1 : (L2.upd H p1 (HO.lst [V.bl true, V.bl false, V.bl false])) p1 = some (HO.lst [V.bl true, V.bl false, V.bl false]) := upd_same
  generalize L2.upd H p1 (HO.lst [V.bl true, V.bl false, V.bl false]) = G1 at sa1 la1 ⊢
  have sA := sa1
  have hx1 := sA _ _ hx
  have lA := la1
  refine isV rfl hx1 I.ec I.k_NoKind ?_
  refine isV rfl hx1 I.ec I.k_TooGreat ?_
  refine isV rfl hx1 I.ec I.k_NoTree ?_
  refine ⟨by decide, fun p2 n2 => ?_⟩
  have sa2 := same_new n2 (HO.lst [V.bl false, V.bl false, V.bl false])
  have la2 : (L2.upd G1 p2 (HO.lst [V.bl false, V.bl false, V.bl false])) p2 = some (HO.lst [V.bl false, V.bl false, V.bl false]) := upd_same
  generalize L2.upd G1 p2 (HO.lst [V.bl false, V.bl false, V.bl false]) = G2 at sa2 la2 ⊢
  refine ⟨_, sa2 _ _ lA, _, la2, by decide, fun p3 n3 => ?_⟩
  simp only [List.cons_append,List.nil_append]
  have sb3 := same_new n3 (HO.lst [V.bl true, V.bl false, V.bl false, V.bl false, V.bl false, V.bl false])
  have lb3 : (L2.upd G2 p3 (HO.lst [V.bl true, V.bl false, V.bl false, V.bl false, V.bl false, V.bl false])) p3 = some (HO.lst [V.bl true, V.bl false, V.bl false, V.bl false, V.bl false, V.bl false]) := upd_same
  generalize L2.upd G2 p3 (HO.lst [V.bl true, V.bl false, V.bl false, V.bl false, V.bl false, V.bl false]) = G3 at sb3 lb3 ⊢
  replace sA := (sA.trans sa2).trans sb3
  have hx2 := sA _ _ hx
  replace lA := lb3
  refine isV rfl hx2 I.ec I.k_NoWeights ?_
  refine isV rfl hx2 I.ec I.k_NoTurns ?_
  refine isV rfl hx2 I.ec I.k_NoNumber ?_
  refine ⟨by decide, fun p4 n4 => ?_⟩
  have sa4 := same_new n4 (HO.lst [V.bl false, V.bl false, V.bl false])
  have la4 : (L2.upd G3 p4 (HO.lst [V.bl false, V.bl false, V.bl false])) p4 = some (HO.lst [V.bl false, V.bl false, V.bl false]) := upd_same
  generalize L2.upd G3 p4 (HO.lst [V.bl false, V.bl false, V.bl false]) = G4 at sa4 la4 ⊢
  refine ⟨_, sa4 _ _ lA, _, la4, by decide, fun p5 n5 => ?_⟩
  simp only [List.cons_append,List.nil_append]
  have sb5 := same_new n5 (HO.lst [V.bl true, V.bl false, V.bl false, V.bl false, V.bl false, V.bl false, V.bl false, V.bl false, V.bl false])
  have lb5 : (L2.upd G4 p5 (HO.lst [V.bl true, V.bl false, V.bl false, V.bl false, V.bl false, V.bl false, V.bl false, V.bl false, V.bl false])) p5 = some (HO.lst [V.bl true, V.bl false, V.bl false, V.bl false, V.bl false, V.bl false, V.bl false, V.bl false, V.bl false]) := upd_same
  generalize L2.upd G4 p5 (HO.lst [V.bl true, V.bl false, V.bl false, V.bl false, V.bl false, V.bl false, V.bl false, V.bl false, V.bl false]) = G5 at sb5 lb5 ⊢
  replace sA := (sA.trans sa4).trans sb5
  have hx3 := sA _ _ hx
  replace lA := lb5
  refine isV rfl hx3 I.ec I.k_NoBoxes ?_
  refine isV rfl hx3 I.ec I.k_NoBudget ?_
  refine isV rfl hx3 I.ec I.k_NoName ?_
  refine ⟨by decide, fun p6 n6 => ?_⟩
  have sa6 := same_new n6 (HO.lst [V.bl false, V.bl false, V.bl false])
  have la6 : (L2.upd G5 p6 (HO.lst [V.bl false, V.bl false, V.bl false])) p6 = some (HO.lst [V.bl false, V.bl false, V.bl false]) := upd_same
  generalize L2.upd G5 p6 (HO.lst [V.bl false, V.bl false, V.bl false]) = G6 at sa6 la6 ⊢
  refine ⟨_, sa6 _ _ lA, _, la6, by decide, fun p7 n7 => ?_⟩
  simp only [List.cons_append,List.nil_append]
  have sb7 := same_new n7 (HO.lst [V.bl true, V.bl false, V.bl false, V.bl false, V.bl false, V.bl false, V.bl false, V.bl false, V.bl false, V.bl false, V.bl false, V.bl false])
  have lb7 : (L2.upd G6 p7 (HO.lst [V.bl true, V.bl false, V.bl false, V.bl false, V.bl false, V.bl false, V.bl false, V.bl false, V.bl false, V.bl false, V.bl false, V.bl false])) p7 = some (HO.lst [V.bl true, V.bl false, V.bl false, V.bl false, V.bl false, V.bl false, V.bl false, V.bl false, V.bl false, V.bl false, V.bl false, V.bl false]) := upd_same
  generalize L2.upd G6 p7 (HO.lst [V.bl true, V.bl false, V.bl false, V.bl false, V.bl false, V.bl false, V.bl false, V.bl false, V.bl false, V.bl false, V.bl false, V.bl false]) = G7 at sb7 lb7 ⊢
  replace sA := (sA.trans sa6).trans sb7
  have hx4 := sA _ _ hx
  replace lA := lb7
  refine isV rfl hx4 I.ec I.k_NoOrder ?_
  refine isV rfl hx4 I.ec I.k_NoPlay ?_
  refine isV rfl hx4 I.ec I.k_NoRoad ?_
  refine ⟨by decide, fun p8 n8 => ?_⟩
  have sa8 := same_new n8 (HO.lst [V.bl false, V.bl false, V.bl false])
  have la8 : (L2.upd G7 p8 (HO.lst [V.bl false, V.bl false, V.bl false])) p8 = some (HO.lst [V.bl false, V.bl false, V.bl false]) := upd_same
  generalize L2.upd G7 p8 (HO.lst [V.bl false, V.bl false, V.bl false]) = G8 at sa8 la8 ⊢
  refine ⟨_, sa8 _ _ lA, _, la8, by decide, fun p9 n9 => ?_⟩
  simp only [List.cons_append,List.nil_append]
  have sb9 := same_new n9 (HO.lst [V.bl true, V.bl false, V.bl false, V.bl false, V.bl false, V.bl false, V.bl false, V.bl false, V.bl false, V.bl false, V.bl false, V.bl false, V.bl false, V.bl false, V.bl false])
  have lb9 : (L2.upd G8 p9 (HO.lst [V.bl true, V.bl false, V.bl false, V.bl false, V.bl false, V.bl false, V.bl false, V.bl false, V.bl false, V.bl false, V.bl false, V.bl false, V.bl false, V.bl false, V.bl false])) p9 = some (HO.lst [V.bl true, V.bl false, V.bl false, V.bl false, V.bl false, V.bl false, V.bl false, V.bl false, V.bl false, V.bl false, V.bl false, V.bl false, V.bl false, V.bl false, V.bl false]) := upd_same
  generalize L2.upd G8 p9 (HO.lst [V.bl true, V.bl false, V.bl false, V.bl false, V.bl false, V.bl false, V.bl false, V.bl false, V.bl false, V.bl false, V.bl false, V.bl false, V.bl false, V.bl false, V.bl false]) = G9 at sb9 lb9 ⊢
  replace sA := (sA.trans sa8).trans sb9
  have hx5 := sA _ _ hx
  replace lA := lb9
  refine isV rfl hx5 I.ec I.k_NoRow ?_
  refine isV rfl hx5 I.ec I.k_NoTable ?_
  refine isV rfl hx5 I.ec I.k_NoPaper ?_
  refine ⟨by decide, fun p10 n10 => ?_⟩
  have sa10 := same_new n10 (HO.lst [V.bl false, V.bl false, V.bl false])
  have la10 : (L2.upd G9 p10 (HO.lst [V.bl false, V.bl false, V.bl false])) p10 = some (HO.lst [V.bl false, V.bl false, V.bl false]) := upd_same
  generalize L2.upd G9 p10 (HO.lst [V.bl false, V.bl false, V.bl false]) = G10 at sa10 la10 ⊢
  refine ⟨_, sa10 _ _ lA, _, la10, by decide, fun p11 n11 => ?_⟩
  simp only [List.cons_append,List.nil_append]
  have sb11 := same_new n11 (HO.lst [V.bl true, V.bl false, V.bl false, V.bl false, V.bl false, V.bl false, V.bl false, V.bl false, V.bl false, V.bl false, V.bl false, V.bl false, V.bl false, V.bl false, V.bl false, V.bl false, V.bl false, V.bl false])
  have lb11 : (L2.upd G10 p11 (HO.lst [V.bl true, V.bl false, V.bl false, V.bl false, V.bl false, V.bl false, V.bl false, V.bl false, V.bl false, V.bl false, V.bl false, V.bl false, V.bl false, V.bl false, V.bl false, V.bl false, V.bl false, V.bl false])) p11 = some (HO.lst [V.bl true, V.bl false, V.bl false, V.bl false, V.bl false, V.bl false, V.bl false, V.bl false, V.bl false, V.bl false, V.bl false, V.bl false, V.bl false, V.bl false, V.bl false, V.bl false, V.bl false, V.bl false]) := upd_same
  generalize L2.upd G10 p11 (HO.lst [V.bl true, V.bl false, V.bl false, V.bl false, V.bl false, V.bl false, V.bl false, V.bl false, V.bl false, V.bl false, V.bl false, V.bl false, V.bl false, V.bl false, V.bl false, V.bl false, V.bl false, V.bl false]) = G11 at sb11 lb11 ⊢
  replace sA := (sA.trans sa10).trans sb11
  have hx6 := sA _ _ hx
  replace lA := lb11
  refine ⟨fun σ H' => H' = G11 ∧ σ = [some (.ref x), some (.ref p11)], ?_, ?_⟩
  · simp_all only [t__law_class_0_eq,t__law_class_1_eq,t__law_class_2_eq,tVar]
    refine ⟨.inl ⟨rfl, _, SqL.of lA⟩, _, SqL.of lA, rfl, rfl, ?_⟩
    refine ite2 (fun z => absurd rfl z) (fun _ => ?_)
    refine isV rfl hx6 I.ec I.k_ValueError ⟨true, rfl, ?_⟩
    exact ite2 (fun z => absurd z (by decide)) (fun _ => rfl)
  rintro σ H2 ⟨e2, rfl⟩
  rw [e2]
  simp_all only [t__law_class_0_eq,t__law_class_1_eq,t__law_class_2_eq,tVar]
  exact ⟨.inl ⟨rfl, _, SqL.of lA⟩, _, _, _, 0, rfl, rfl, SqL.of lA, rfl, rfl, rfl, by decide, q _ sA⟩
theorem sc__law_class : FnScope ["_law_caught_here", "_law_tests"] ["_law_caught_here"] (defScope s__law_class) := ⟨rfl, rfl, rfl, by decide +kernel, rfl, by decide +kernel, by decide +kernel⟩
theorem ok__law_class (T : Txt K mg a) : FnOk P w K mg base CX0 1 a.f__law_class a.d__law_class ["_law_caught_here"] (spClass a) := by
  refine T.F__law_class.ok sc__law_class (fun vs H Q E h => ?_) (fun cdv A outer s H vs Q E hr h => ?_)
  · obtain ⟨x, d, rfl, C, q⟩ := h
    rfl
  obtain ⟨x, d, rfl, C, q⟩ := h
  exact ⟨t__law_class K a, (pss_cons (ps_cut (ps_if (pt_cmpR op_isN (pv 0) pe_non (nomark _)) (pss_one (ps_ret (pe_un un_neg pe_int))) pss_nil))
  (pss_cons (ps_set (i := 1) sc__law_class.nd rfl (Or.inl rfl) (pe_lst (pa_cons (pe_callB call_isinstV rfl T.z_isinstance PyProof.Rows.boot_isinstance (pa_cons (pv 0) (pa_cons (pe_glob rfl T.m_NoWeb rfl) pa_nil))) (pa_cons (pe_callB call_isinstV rfl T.z_isinstance PyProof.Rows.boot_isinstance (pa_cons (pv 0) (pa_cons (pe_glob rfl T.m_NoPlan rfl) pa_nil))) (pa_cons (pe_callB call_isinstV rfl T.z_isinstance PyProof.Rows.boot_isinstance (pa_cons (pv 0) (pa_cons (pe_glob rfl T.m_NoText rfl) pa_nil))) pa_nil)))))
  (pss_cons (ps_set (i := 1) sc__law_class.nd rfl (Or.inl rfl) (pe_op op_cat (pv 1) (pe_lst (pa_cons (pe_callB call_isinstV rfl T.z_isinstance PyProof.Rows.boot_isinstance (pa_cons (pv 0) (pa_cons (pe_glob rfl T.m_NoKind rfl) pa_nil))) (pa_cons (pe_callB call_isinstV rfl T.z_isinstance PyProof.Rows.boot_isinstance (pa_cons (pv 0) (pa_cons (pe_glob rfl T.m_TooGreat rfl) pa_nil))) (pa_cons (pe_callB call_isinstV rfl T.z_isinstance PyProof.Rows.boot_isinstance (pa_cons (pv 0) (pa_cons (pe_glob rfl T.m_NoTree rfl) pa_nil))) pa_nil))))))
  (pss_cons (ps_set (i := 1) sc__law_class.nd rfl (Or.inl rfl) (pe_op op_cat (pv 1) (pe_lst (pa_cons (pe_callB call_isinstV rfl T.z_isinstance PyProof.Rows.boot_isinstance (pa_cons (pv 0) (pa_cons (pe_glob rfl T.m_NoWeights rfl) pa_nil))) (pa_cons (pe_callB call_isinstV rfl T.z_isinstance PyProof.Rows.boot_isinstance (pa_cons (pv 0) (pa_cons (pe_glob rfl T.m_NoTurns rfl) pa_nil))) (pa_cons (pe_callB call_isinstV rfl T.z_isinstance PyProof.Rows.boot_isinstance (pa_cons (pv 0) (pa_cons (pe_glob rfl T.m_NoNumber rfl) pa_nil))) pa_nil))))))
  (pss_cons (ps_set (i := 1) sc__law_class.nd rfl (Or.inl rfl) (pe_op op_cat (pv 1) (pe_lst (pa_cons (pe_callB call_isinstV rfl T.z_isinstance PyProof.Rows.boot_isinstance (pa_cons (pv 0) (pa_cons (pe_glob rfl T.m_NoBoxes rfl) pa_nil))) (pa_cons (pe_callB call_isinstV rfl T.z_isinstance PyProof.Rows.boot_isinstance (pa_cons (pv 0) (pa_cons (pe_glob rfl T.m_NoBudget rfl) pa_nil))) (pa_cons (pe_callB call_isinstV rfl T.z_isinstance PyProof.Rows.boot_isinstance (pa_cons (pv 0) (pa_cons (pe_glob rfl T.m_NoName rfl) pa_nil))) pa_nil))))))
  (pss_cons (ps_set (i := 1) sc__law_class.nd rfl (Or.inl rfl) (pe_op op_cat (pv 1) (pe_lst (pa_cons (pe_callB call_isinstV rfl T.z_isinstance PyProof.Rows.boot_isinstance (pa_cons (pv 0) (pa_cons (pe_glob rfl T.m_NoOrder rfl) pa_nil))) (pa_cons (pe_callB call_isinstV rfl T.z_isinstance PyProof.Rows.boot_isinstance (pa_cons (pv 0) (pa_cons (pe_glob rfl T.m_NoPlay rfl) pa_nil))) (pa_cons (pe_callB call_isinstV rfl T.z_isinstance PyProof.Rows.boot_isinstance (pa_cons (pv 0) (pa_cons (pe_glob rfl T.m_NoRoad rfl) pa_nil))) pa_nil))))))
  (pss_cons (ps_set (i := 1) sc__law_class.nd rfl (Or.inl rfl) (pe_op op_cat (pv 1) (pe_lst (pa_cons (pe_callB call_isinstV rfl T.z_isinstance PyProof.Rows.boot_isinstance (pa_cons (pv 0) (pa_cons (pe_glob rfl T.m_NoRow rfl) pa_nil))) (pa_cons (pe_callB call_isinstV rfl T.z_isinstance PyProof.Rows.boot_isinstance (pa_cons (pv 0) (pa_cons (pe_glob rfl T.m_NoTable rfl) pa_nil))) (pa_cons (pe_callB call_isinstV rfl T.z_isinstance PyProof.Rows.boot_isinstance (pa_cons (pv 0) (pa_cons (pe_glob rfl T.m_NoPaper rfl) pa_nil))) pa_nil))))))
  (pss_cons (ps_cut (ps_if (PW.pt (pw_or (pt_cmpR op_ne (pe_bm PySem.F.plainAttrs_list PySem.F.slot_list_count PySem.F.type_list_count mt_count (pv 1) (pa_cons pe_bl pa_nil)) pe_int (nomark _)) (pw_or1 (pt_not (pt_val (pe_callB call_isinstV rfl T.z_isinstance PyProof.Rows.boot_isinstance (pa_cons (pv 0) (pa_cons (pe_bltn rfl T.z_ValueError boot_ValueError rfl) pa_nil)))))))) (pss_one (ps_ret (pe_un un_neg pe_int))) pss_nil))
  (pss_one (ps_ret (pe_bm PySem.F.plainAttrs_list PySem.F.slot_list_index PySem.F.type_list_index mt_index (pv 1) (pa_cons pe_bl pa_nil)))))))))))),
    rd__law_class T.I C q⟩
theorem inV_int (x : Int) : ∀ cs : List Int, inV (.int x) (cs.map V.int) = decide (x ∈ cs)
  | [] => rfl
  | c :: cs => by
    have ih := inV_int x cs
    unfold inV at ih ⊢
    rw [List.map_cons, List.any_cons, ih]
    by_cases e : c = x
    · subst e
      simp [eqV]
    · have : eqV (.int c) (.int x) = false := beq_eq_false_iff_ne.mpr e
      rw [this, Bool.false_or]
      exact decide_eq_decide.mpr ⟨fun h => List.mem_cons_of_mem _ h, fun h => (List.mem_cons.mp h).resolve_left fun z => e z.symm⟩
theorem flat_ints (cs : List Int) : (cs.map V.int).all flatV = true := by
  rw [List.all_map]
  exact List.all_eq_true.mpr fun _ _ => rfl
def CloL (rs : List Road) (cs : List Int) : Prop := ∀ r ∈ rs, (r.1 ∈ cs ↔ r.2.1 ∈ cs)
structure Cms (m : Int) (rs : List Road) (cs : List Int) : Prop where
  nd : cs.Nodup
  inR : ∀ x ∈ cs, 0 ≤ x ∧ x < m
  zero : 0 ∈ cs
  least : ∀ S : Int → Prop, S 0 → Clo rs S → ∀ x ∈ cs, S x
theorem Cms.len {m : Int} {rs : List Road} {cs : List Int} (h : Cms m rs cs) : cs.length ≤ m.toNat := by
  have := nodup_len cs (upto m) h.nd fun x hx => mem_ints.mpr (h.inR x hx)
  unfold upto at this
  rw [List.length_map, List.length_range] at this
  exact this
theorem Cms.put {m : Int} {rs : List Road} {cs : List Int} (h : Cms m rs cs) {r : Road} (hr : r ∈ rs) (g : GR m r) {x y : Int} (hx : x ∈ cs) (hy : y ∉ cs) (e : (x = r.1 ∧ y = r.2.1) ∨ (x = r.2.1 ∧ y = r.1)) : Cms m rs (cs ++ [y]) := by
  refine ⟨List.nodup_append.mpr ⟨h.nd, by simp, fun a ha b hb z => hy ?_⟩, fun z hz => ?_, List.mem_append_left _ h.zero, fun S s0 sc z hz => ?_⟩
  · rw [← List.mem_singleton.mp hb, ← z]
    exact ha
  · rcases List.mem_append.mp hz with hz | hz
    · exact h.inR z hz
    · rw [List.mem_singleton.mp hz]
      unfold GR at g
      rcases e with ⟨_, rfl⟩ | ⟨_, rfl⟩
      · exact ⟨g.2.2.1, g.2.2.2.1⟩
      · exact ⟨g.1, g.2.1⟩
  · rcases List.mem_append.mp hz with hz | hz
    · exact h.least S s0 sc z hz
    · rw [List.mem_singleton.mp hz]
      have sx := h.least S s0 sc x hx
      rcases e with ⟨rfl, rfl⟩ | ⟨rfl, rfl⟩
      · exact (sc r hr (.inl sx)).2
      · exact (sc r hr (.inr sx)).1
theorem Cms.end {m : Int} {rs : List Road} {cs : List Int} (h : Cms m rs cs) (c : CloL rs cs) (m1 : 1 ≤ m) : m ≤ (cs.length : Int) ↔ Conn m rs := by
  constructor
  · intro hl S s0 sc x x0 x1
    refine h.least S s0 sc x ?_
    by_cases hx : x ∈ cs
    · exact hx
    · have := nodup_len (x :: cs) (upto m) (List.nodup_cons.mpr ⟨hx, h.nd⟩) fun y hy => by
        rcases List.mem_cons.mp hy with rfl | hy
        · exact mem_ints.mpr ⟨x0, x1⟩
        · exact mem_ints.mpr (h.inR y hy)
      unfold upto at this
      rw [List.length_map, List.length_range, List.length_cons] at this
      omega
  · intro hc
    have all : ∀ x, 0 ≤ x → x < m → x ∈ cs := hc (fun x => x ∈ cs) h.zero fun r hr hh => by
      have := c r hr
      rcases hh with hh | hh
      · exact ⟨hh, this.mp hh⟩
      · exact ⟨this.mpr hh, hh⟩
    have := nodup_len (upto m) cs nodup_ints fun x hx => all x (mem_ints.mp hx).1 (mem_ints.mp hx).2
    unfold upto at this
    rw [List.length_map, List.length_range] at this
    omega
def t__law_due_0 (K : PySem.W.Frag) : TS :=
  (tIfS (tTest (tOp (rI0 fun i j => .bl (decide (i < j))) (tCB (fun xs H Q => ∃ p ys, xs = [.ref p] ∧ (SqL K H p ys ∨ SqT K H p ys) ∧ Q (.int ys.length) H) (tCons (tVar 7) tNil)) (tVar 1))) (tRet (tUn (rU fun i => .int (-i)) (tC (.int 1)))) tNext)
theorem t__law_due_0_eq (K : PySem.W.Frag) (D : Ends) (σ : St) (H : Hp) : t__law_due_0 K D σ H = (tIfS (tTest (tOp (rI0 fun i j => .bl (decide (i < j))) (tCB (fun xs H Q => ∃ p ys, xs = [.ref p] ∧ (SqL K H p ys ∨ SqT K H p ys) ∧ Q (.int ys.length) H) (tCons (tVar 7) tNil)) (tVar 1))) (tRet (tUn (rU fun i => .int (-i)) (tC (.int 1)))) tNext) D σ H := rfl
def t__law_due_1 (K : PySem.W.Frag) : TS :=
  (tIfS (tTest (tOp rNe (tOp (rIn K false) (tVar 4) (tVar 7)) (tOp (rIn K false) (tVar 5) (tVar 7)))) (tDrop (tBM K "list" rAppend (tVar 7) (tCons (tOp (rIxL K) (tLst (tCons (tVar 4) (tCons (tVar 5) tNil))) (tCB (fun xs H Q => (∃ i, xs = [.int i] ∧ Q (.int i) H) ∨ ∃ k, xs = [.bl k] ∧ Q (.int (if k then 1 else 0)) H) (tCons (tOp (rIn K false) (tVar 4) (tVar 7)) tNil))) tNil))) tNext)
theorem t__law_due_1_eq (K : PySem.W.Frag) (D : Ends) (σ : St) (H : Hp) : t__law_due_1 K D σ H = (tIfS (tTest (tOp rNe (tOp (rIn K false) (tVar 4) (tVar 7)) (tOp (rIn K false) (tVar 5) (tVar 7)))) (tDrop (tBM K "list" rAppend (tVar 7) (tCons (tOp (rIxL K) (tLst (tCons (tVar 4) (tCons (tVar 5) tNil))) (tCB (fun xs H Q => (∃ i, xs = [.int i] ∧ Q (.int i) H) ∨ ∃ k, xs = [.bl k] ∧ Q (.int (if k then 1 else 0)) H) (tCons (tOp (rIn K false) (tVar 4) (tVar 7)) tNil))) tNil))) tNext) D σ H := rfl
def t__law_due_2 (K : PySem.W.Frag) : TS :=
  (tSeq (tAsg (tLst (tCons (tC (.int 0)) tNil)) (gName 7))
  (tSeq (tFor (iRng1 (tCons (tVar 1) tNil)) (gName 8)
  (tFor (iList K (tVar 2)) (gTup K 3 (gCons (gName 4) (gCons (gName 5) (gCons (gName 6) gNil))))
  (t__law_due_1 K)))
  (tSeq (tCut (t__law_due_0 K))
  (tRet (tC .non)))))
theorem t__law_due_2_eq (K : PySem.W.Frag) (D : Ends) (σ : St) (H : Hp) : t__law_due_2 K D σ H = (tSeq (tAsg (tLst (tCons (tC (.int 0)) tNil)) (gName 7))
  (tSeq (tFor (iRng1 (tCons (tVar 1) tNil)) (gName 8)
  (tFor (iList K (tVar 2)) (gTup K 3 (gCons (gName 4) (gCons (gName 5) (gCons (gName 6) gNil))))
  (t__law_due_1 K)))
  (tSeq (tCut (t__law_due_0 K))
  (tRet (tC .non))))) D σ H := rfl
def t__law_due_3 (K : PySem.W.Frag) : TS :=
  (tIfS (tOr (tTest (tOp (rI0 fun i j => .bl (decide (i < j))) (tVar 1) (tC (.int 1)))) (tOr (tTest (tOp (rI0 fun i j => .bl (decide (j < i))) (tVar 1) (tC (.int 60)))) (tTest (tOp (rI0 fun i j => .bl (decide (j < i))) (tCB (fun xs H Q => ∃ p ys, xs = [.ref p] ∧ (SqL K H p ys ∨ SqT K H p ys) ∧ Q (.int ys.length) H) (tCons (tVar 2) tNil)) (tC (.int 120)))))) (tRet (tUn (rU fun i => .int (-i)) (tC (.int 1)))) tNext)
theorem t__law_due_3_eq (K : PySem.W.Frag) (D : Ends) (σ : St) (H : Hp) : t__law_due_3 K D σ H = (tIfS (tOr (tTest (tOp (rI0 fun i j => .bl (decide (i < j))) (tVar 1) (tC (.int 1)))) (tOr (tTest (tOp (rI0 fun i j => .bl (decide (j < i))) (tVar 1) (tC (.int 60)))) (tTest (tOp (rI0 fun i j => .bl (decide (j < i))) (tCB (fun xs H Q => ∃ p ys, xs = [.ref p] ∧ (SqL K H p ys ∨ SqT K H p ys) ∧ Q (.int ys.length) H) (tCons (tVar 2) tNil)) (tC (.int 120)))))) (tRet (tUn (rU fun i => .int (-i)) (tC (.int 1)))) tNext) D σ H := rfl
def t__law_due_4 (K : PySem.W.Frag) : TS :=
  (tSeq (tAsg (tOp (rIxL K) (tVar 2) (tVar 3)) (gTup K 3 (gCons (gName 4) (gCons (gName 5) (gCons (gName 6) gNil)))))
  (tIfS (tOr (tTest (tOp (rI0 fun i j => .bl (decide (i < j))) (tVar 4) (tC (.int 0)))) (tOr (tTest (tOp (rI0 fun i j => .bl (decide (i < j))) (tVar 5) (tC (.int 0)))) (tOr (tTest (tOp (rI0 fun i j => .bl (decide (j ≤ i))) (tVar 4) (tVar 1))) (tOr (tTest (tOp (rI0 fun i j => .bl (decide (j ≤ i))) (tVar 5) (tVar 1))) (tOr (tTest (tOp rEq (tVar 4) (tVar 5))) (tOr (tTest (tOp (rI0 fun i j => .bl (decide (i < j))) (tVar 6) (tC (.int 1)))) (tTest (tOp (rI0 fun i j => .bl (decide (j < i))) (tVar 6) (tOp (rI CPow fun i j => .int (i ^ j.toNat)) (tC (.int 10)) (tC (.int 6))))))))))) (tRet (tVar 3)) tNext))
theorem t__law_due_4_eq (K : PySem.W.Frag) (D : Ends) (σ : St) (H : Hp) : t__law_due_4 K D σ H = (tSeq (tAsg (tOp (rIxL K) (tVar 2) (tVar 3)) (gTup K 3 (gCons (gName 4) (gCons (gName 5) (gCons (gName 6) gNil)))))
  (tIfS (tOr (tTest (tOp (rI0 fun i j => .bl (decide (i < j))) (tVar 4) (tC (.int 0)))) (tOr (tTest (tOp (rI0 fun i j => .bl (decide (i < j))) (tVar 5) (tC (.int 0)))) (tOr (tTest (tOp (rI0 fun i j => .bl (decide (j ≤ i))) (tVar 4) (tVar 1))) (tOr (tTest (tOp (rI0 fun i j => .bl (decide (j ≤ i))) (tVar 5) (tVar 1))) (tOr (tTest (tOp rEq (tVar 4) (tVar 5))) (tOr (tTest (tOp (rI0 fun i j => .bl (decide (i < j))) (tVar 6) (tC (.int 1)))) (tTest (tOp (rI0 fun i j => .bl (decide (j < i))) (tVar 6) (tOp (rI CPow fun i j => .int (i ^ j.toNat)) (tC (.int 10)) (tC (.int 6))))))))))) (tRet (tVar 3)) tNext)) D σ H := rfl
def t__law_due (K : PySem.W.Frag) : TS :=
  (tSeq (tAsg (tVar 0) (gTup K 2 (gCons (gName 1) (gCons (gName 2) gNil))))
  (tSeq (tFor (iRng1 (tCons (tCB (fun xs H Q => ∃ p ys, xs = [.ref p] ∧ (SqL K H p ys ∨ SqT K H p ys) ∧ Q (.int ys.length) H) (tCons (tVar 2) tNil)) tNil)) (gName 3)
  (t__law_due_4 K))
  (tSeq (tCut (t__law_due_3 K))
  (t__law_due_2 K))))
theorem rd__law_due {w rl : Addr} {ts : List Addr} {m : Int} {rs : List Road} (W : WebH H w rl ts m rs) (l200 : rs.length ≤ 200) (q : Good m rs → ∀ H', Same H H' → Q .non H') (e : ∀ d, DueIs m rs d → ∀ H', Same H H' → Q (.int d) H') :
    t__law_due K { nx := fun _ H' => Q .non H', rt := Q } (L2.start ["_law_web_here", "_law_many", "_law_roads", "_law_k", "_law_a", "_law_b", "_law_length_here", "_law_come", "_law_place"] [.ref w]) H := by
  unfold t__law_due
  simp_all only [t__law_due_0_eq,t__law_due_1_eq,t__law_due_2_eq,t__law_due_3_eq,t__law_due_4_eq,tVar]
  refine ⟨_, SqT.of W.hw, rfl, _, _, rfl, _, _, rfl, rfl, ?_⟩
  refine ⟨_, rfl, _, .inl (SqL.of W.hl), ?_⟩
  rw [List.length_map, W.ht.1, Int.toNat_natCast]
  refine ⟨by omega, by omega, ?_⟩
  refine for_rangeF (fun i σ H' => H' = H ∧ (∀ (j : Nat) r, j < i → rs[j]? = some r → GR m r) ∧ ∃ x3 x4 x5 x6, σ = [some (.ref w), some (.int m), some (.ref rl), x3, x4, x5, x6, none, none]) ⟨rfl, fun j r hj => by omega, _, _, _, _, rfl⟩ ?_ ?_
  · rintro i σ H1 hi ⟨rfl, hg, x3, x4, x5, x6, rfl⟩
    have er : rs[i]? = some rs[i] := List.getElem?_eq_getElem hi
    have et : ts[i]? = some (ts[i]'(by rw [W.ht.1]; exact hi)) := List.getElem?_eq_getElem _
    generalize rs[i] = r at er
    generalize ts[i]'(by rw [W.ht.1]; exact hi) = t at et
    have ht := W.ht.2 i t r et er
    rw [Int.zero_add]
    simp_all only [t__law_due_0_eq,t__law_due_1_eq,t__law_due_2_eq,t__law_due_3_eq,t__law_due_4_eq,tVar]
    refine ⟨_, SqL.of W.hl, _, atI_nat (by rw [List.getElem?_map, et]; rfl), _, rfl, _, SqT.of ht, rfl, ?_⟩
    have bad : ¬ GR m r → Q (.int (i : Int)) H1 := fun n => e _ (.inl ⟨i, badAt_at er n hg, rfl⟩) _ (.refl _)
    refine ⟨_, _, rfl, _, _, rfl, _, _, rfl, rfl, r.1, rfl, ite2 (fun z => bad fun g => ?_) (fun z1 => ⟨r.2.1, rfl, ite2 (fun z => bad fun g => ?_) (fun z2 => ⟨r.1, rfl, ite2 (fun z => bad fun g => ?_) (fun z3 => ⟨r.2.1, rfl, ite2 (fun z => bad fun g => ?_) (fun z4 => ⟨rfl, ite2 (fun z => bad fun g => ?_) (fun z5 => ⟨r.2.2, rfl, ite2 (fun z => bad fun g => ?_) (fun z6 => ⟨pow6, r.2.2, rfl, ite2 (fun z => bad fun g => ?_) (fun z7 j q hj hq => ?_)⟩)⟩)⟩)⟩)⟩)⟩)⟩
    · have := g.1; omega
    · have := g.2.2.1; omega
    · have := g.2.1; omega
    · have := g.2.2.2.1; omega
    · exact g.2.2.2.2.1 (V.int.inj z)
    · have := g.2.2.2.2.2.1; omega
    · have := g.2.2.2.2.2.2; omega
    · rcases Nat.lt_or_eq_of_le (Nat.lt_succ_iff.mp hj) with h | h
      · exact hg j q h hq
      · rw [h, er] at hq
        cases hq
        exact ⟨by omega, by omega, by omega, by omega, fun z => z5 (by rw [z]), by omega, by omega⟩
  · rintro σ H1 ⟨rfl, hg, x3, x4, x5, x6, rfl⟩
    have gr : ∀ r ∈ rs, GR m r := fun r hr => by
      obtain ⟨j, hj, e⟩ := List.mem_iff_getElem.mp hr
      exact hg j r hj (by rw [List.getElem?_eq_getElem hj, e])
    have bn := badAt_none gr
    have no : ¬ (1 ≤ m ∧ m ≤ 60 ∧ rs.length ≤ 120 ∧ Conn m rs) → ∀ H2, Same H1 H2 → Q (.int (-1)) H2 := fun n H2 s2 => e _ (.inr ⟨bn, n, rfl⟩) H2 s2
    simp_all only [t__law_due_0_eq,t__law_due_1_eq,t__law_due_2_eq,t__law_due_3_eq,t__law_due_4_eq,tVar]
    refine ⟨fun σ H' => H' = H1 ∧ 1 ≤ m ∧ m ≤ 60 ∧ rs.length ≤ 120 ∧ σ = [some (.ref w), some (.int m), some (.ref rl), x3, x4, x5, x6, none, none], ?_, ?_⟩
    · simp_all only [t__law_due_0_eq,t__law_due_1_eq,t__law_due_2_eq,t__law_due_3_eq,t__law_due_4_eq,tVar]
      refine ite2 (fun z => no (fun n => by omega) _ (.refl _)) (fun z1 => ite2 (fun z => no (fun n => by omega) _ (.refl _)) (fun z2 => ⟨_, .inl (SqL.of W.hl), ?_⟩))
      rw [List.length_map, W.ht.1]
      exact ite2 (fun z => no (fun n => by omega) _ (.refl _)) (fun z3 => ⟨by omega, by omega, by omega⟩)
    rintro σ H2 ⟨rfl, m1, m60, l120, rfl⟩
    simp_all only [t__law_due_0_eq,t__law_due_1_eq,t__law_due_2_eq,t__law_due_3_eq,t__law_due_4_eq,tVar]
    refine ⟨by decide, fun cl hcl => ⟨by omega, by omega, ?_⟩⟩
    have i0 : Cms m rs [0] := ⟨by simp, fun x hx => by rw [List.mem_singleton.mp hx]; omega, by simp, fun S s0 _ x hx => by rw [List.mem_singleton.mp hx]; exact s0⟩
    refine for_rangeF (fun i σ H' => Same H2 H' ∧ ∃ cs : List Int, H' cl = some (.lst (cs.map V.int)) ∧ Cms m rs cs ∧ (CloL rs cs ∨ i + 1 ≤ cs.length) ∧ ∃ y3 y4 y5 y6 y8, σ = [some (.ref w), some (.int m), some (.ref rl), y3, y4, y5, y6, some (.ref cl), y8]) ⟨same_new hcl _, [0], upd_same, i0, .inr (Nat.le_refl _), _, _, _, _, _, rfl⟩ ?_ ?_
    · rintro i σ H3 hi ⟨s3, cs0, h3, c3, d3, y3, y4, y5, y6, y8, rfl⟩
      simp_all only [t__law_due_0_eq,t__law_due_1_eq,t__law_due_2_eq,t__law_due_3_eq,t__law_due_4_eq,tVar]
      refine ⟨⟨_, SqL.of (s3 _ _ W.hl)⟩, ?_⟩
      refine for_listF (K := K) (xs := ts.map V.ref) (fun j σ H' => Same H2 H' ∧ ∃ cs : List Int, H' cl = some (.lst (cs.map V.int)) ∧ Cms m rs cs ∧ ((cs = cs0 ∧ ∀ (k : Nat) r, k < j → rs[k]? = some r → (r.1 ∈ cs0 ↔ r.2.1 ∈ cs0)) ∨ (¬ CloL rs cs0 ∧ cs0.length < cs.length)) ∧ ∃ z3 z4 z5 z6 z8, σ = [some (.ref w), some (.int m), some (.ref rl), z3, z4, z5, z6, some (.ref cl), z8]) ⟨s3, cs0, h3, c3, .inl ⟨rfl, fun k r hk => by omega⟩, _, _, _, _, _, rfl⟩ ?_ ?_ ?_
      · rintro j σ H' _ ⟨s, _⟩
        exact SqL.of (s _ _ W.hl)
      · rintro j x σ H4 hx ⟨s4, cs, h4, c4, d4, z3, z4, z5, z6, z8, rfl⟩
        obtain ⟨t, et, rfl⟩ := map_at hx
        obtain ⟨r, er, hr⟩ := W.ht.at et
        have g := gr r (mem_at er)
        simp_all only [t__law_due_0_eq,t__law_due_1_eq,t__law_due_2_eq,t__law_due_3_eq,t__law_due_4_eq,tVar]
        refine ⟨_, SqT.of (s4 _ _ hr), rfl, _, _, rfl, _, _, rfl, _, _, rfl, rfl, ?_⟩
        refine ⟨_, .inl (SqL.of h4), rfl, flat_ints cs, _, .inl (SqL.of h4), rfl, flat_ints cs, ?_⟩
        rw [inV_int, inV_int]
        have lc := c4.len
        refine ite2 (fun c => ?_) (fun c => ?_)
        · refine ⟨.inl ⟨rfl, _, SqL.of h4⟩, by decide, fun p hp => ?_⟩
          have np : cl ≠ p := ne_of_none h4 hp
          have h5 : (L2.upd H4 p (HO.lst [V.int r.fst, V.int r.snd.fst])) cl = some (.lst (cs.map V.int)) := by rw [upd_ne np]; exact h4
          have s5 := (s4.add hp (o := HO.lst [V.int r.fst, V.int r.snd.fst])).put hcl (o := .lst (cs.map V.int ++ [V.int r.2.1]))
          have s6 := (s4.add hp (o := HO.lst [V.int r.fst, V.int r.snd.fst])).put hcl (o := .lst (cs.map V.int ++ [V.int r.1]))
          have big : (cs.map V.int).length < sizeLine := by rw [List.length_map]; simp only [sizeLine]; omega
          have go : ∀ y, ¬ CloL rs cs0 ∧ cs0.length < (cs ++ [y]).length := fun y => by
            rw [List.length_append, List.length_singleton]
            rcases d4 with ⟨rfl, _⟩ | ⟨hn, hl⟩
            · exact ⟨fun z => c (decide_eq_decide.mpr (z r (mem_at er))), by omega⟩
            · exact ⟨hn, by omega⟩
          refine ⟨_, .inl (SqL.of h5), rfl, flat_ints cs, .inr ?_⟩
          rw [inV_int]
          by_cases ha : r.1 ∈ cs
          · have hb : r.2.1 ∉ cs := fun hb => c (by rw [decide_eq_true ha, decide_eq_true hb])
            rw [decide_eq_true ha]
            exact ⟨_, SqL.of upd_same, .int r.2.1, rfl, _, h5, big, s5, cs ++ [r.2.1], by rw [upd_same, List.map_append]; rfl, c4.put (mem_at er) g ha hb (.inl ⟨rfl, rfl⟩), .inr (go _)⟩
          · have hb : r.2.1 ∈ cs := Decidable.not_not.mp fun hb => c (by rw [decide_eq_false ha, decide_eq_false hb])
            rw [decide_eq_false ha]
            exact ⟨_, SqL.of upd_same, .int r.1, rfl, _, h5, big, s6, cs ++ [r.1], by rw [upd_same, List.map_append]; rfl, c4.put (mem_at er) g hb ha (.inr ⟨rfl, rfl⟩), .inr (go _)⟩
        · refine ⟨s4, cs, h4, c4, ?_⟩
          rcases d4 with ⟨rfl, hc⟩ | h
          · refine .inl ⟨rfl, fun k r' hk hr' => ?_⟩
            rcases Nat.lt_or_eq_of_le (Nat.lt_succ_iff.mp hk) with h | h
            · exact hc k r' h hr'
            · rw [h, er] at hr'
              cases hr'
              exact decide_eq_decide.mp (Decidable.not_not.mp c)
          · exact .inr h
      · rintro σ H4 ⟨s4, cs, h4, c4, d4, z3, z4, z5, z6, z8, rfl⟩
        refine ⟨s4, cs, h4, c4, ?_, _, _, _, _, _, rfl⟩
        rw [List.length_map, W.ht.1] at d4
        rcases d4 with ⟨rfl, hc⟩ | ⟨hn, hl⟩
        · refine .inl fun r hr => ?_
          obtain ⟨k, hk, e⟩ := List.mem_iff_getElem.mp hr
          exact hc k r hk (by rw [List.getElem?_eq_getElem hk, e])
        · have := d3.resolve_left hn
          exact .inr (by omega)
    · rintro σ H3 ⟨s3, cs, h3, c3, d3, y3, y4, y5, y6, y8, rfl⟩
      have cl3 : CloL rs cs := d3.resolve_right fun z => by have := c3.len; omega
      have en := c3.end cl3 m1
      simp_all only [t__law_due_0_eq,t__law_due_1_eq,t__law_due_2_eq,t__law_due_3_eq,t__law_due_4_eq,tVar]
      refine ⟨fun σ H' => Same H2 H' ∧ Conn m rs, ?_, ?_⟩
      · simp_all only [t__law_due_0_eq,t__law_due_1_eq,t__law_due_2_eq,t__law_due_3_eq,t__law_due_4_eq,tVar]
        refine ⟨_, .inl (SqL.of h3), ?_⟩
        rw [List.length_map]
        exact ite2 (fun z => no (fun n => by have := en.mpr n.2.2.2; omega) _ s3) (fun z => ⟨s3, en.mp (by omega)⟩)
      · rintro σ H4 ⟨s4, c⟩
        simp_all only [t__law_due_0_eq,t__law_due_1_eq,t__law_due_2_eq,t__law_due_3_eq,t__law_due_4_eq,tVar]
        exact q ⟨bn, m1, m60, l120, c⟩ _ s4
theorem sc__law_due : FnScope ["_law_web_here", "_law_many", "_law_roads", "_law_k", "_law_a", "_law_b", "_law_length_here", "_law_come", "_law_place"] ["_law_web_here"] (defScope s__law_due) := ⟨rfl, rfl, rfl, by decide +kernel, rfl, by decide +kernel, by decide +kernel⟩
theorem ok__law_due (T : Txt K mg a) : FnOk P w K mg base CX0 1 a.f__law_due a.d__law_due ["_law_web_here"] spDue := by
  refine T.F__law_due.ok sc__law_due (fun vs H Q E h => ?_) (fun cdv A outer s H vs Q E hr h => ?_)
  · obtain ⟨w', rl, ts, m, rs, rfl, W, l200, q, e⟩ := h
    rfl
  obtain ⟨w', rl, ts, m, rs, rfl, W, l200, q, e⟩ := h
  exact ⟨t__law_due K, (pss_cons (ps_asg (pv 0) (pg_tup rfl (pgs_cons (pg_name (i := 1) sc__law_due.nd rfl (Or.inl rfl)) (pgs_cons (pg_name (i := 2) sc__law_due.nd rfl (Or.inl rfl)) pgs_nil))))
  (pss_cons (ps_for PassesOwn.never rfl (pi_range1 rfl T.z_range (pa_cons (pe_callB call_len_seq rfl T.z_len PySem.boot_len (pa_cons (pv 2) pa_nil)) pa_nil)) (pg_name (i := 3) sc__law_due.nd rfl (Or.inl rfl))
  (pss_cons (ps_asg (pe_ix ix_list (pv 2) (pv 3) (fun _ _ => rfl)) (pg_tup rfl (pgs_cons (pg_name (i := 4) sc__law_due.nd rfl (Or.inl rfl)) (pgs_cons (pg_name (i := 5) sc__law_due.nd rfl (Or.inl rfl)) (pgs_cons (pg_name (i := 6) sc__law_due.nd rfl (Or.inl rfl)) pgs_nil)))))
  (pss_one (ps_if (PW.pt (pw_or (pt_cmpR op_lt (pv 4) pe_int (nomark _)) (pw_or (pt_cmpR op_lt (pv 5) pe_int (nomark _)) (pw_or (pt_cmpR op_ge (pv 4) (pv 1) (nomark _)) (pw_or (pt_cmpR op_ge (pv 5) (pv 1) (nomark _)) (pw_or (pt_cmpR op_eq (pv 4) (pv 5) (nomark _)) (pw_or (pt_cmpR op_lt (pv 6) pe_int (nomark _)) (pw_or1 (pt_cmpR op_gt (pv 6) (pe_op op_pow pe_int pe_int) (nomark _)))))))))) (pss_one (ps_ret (pv 3))) pss_nil))))
  (pss_cons (ps_cut (ps_if (PW.pt (pw_or (pt_cmpR op_lt (pv 1) pe_int (nomark _)) (pw_or (pt_cmpR op_gt (pv 1) pe_int (nomark _)) (pw_or1 (pt_cmpR op_gt (pe_callB call_len_seq rfl T.z_len PySem.boot_len (pa_cons (pv 2) pa_nil)) pe_int (nomark _)))))) (pss_one (ps_ret (pe_un un_neg pe_int))) pss_nil))
  (pss_cons (ps_set (i := 7) sc__law_due.nd rfl (Or.inl rfl) (pe_lst (pa_cons pe_int pa_nil)))
  (pss_cons (ps_for PassesOwn.never rfl (pi_range1 rfl T.z_range (pa_cons (pv 1) pa_nil)) (pg_name (i := 8) sc__law_due.nd rfl (Or.inl rfl))
  (pss_one (ps_for PassesOwn.never rfl (pi_list (pv 2)) (pg_tup rfl (pgs_cons (pg_name (i := 4) sc__law_due.nd rfl (Or.inl rfl)) (pgs_cons (pg_name (i := 5) sc__law_due.nd rfl (Or.inl rfl)) (pgs_cons (pg_name (i := 6) sc__law_due.nd rfl (Or.inl rfl)) pgs_nil))))
  (pss_one (ps_if (pt_cmpR op_ne (pe_cmpR op_in_seq (pv 4) (pv 7) (by with_unfolding_all rfl)) (pe_cmpR op_in_seq (pv 5) (pv 7) (by with_unfolding_all rfl)) (nomark _)) (pss_one (ps_expr (pe_bm PySem.F.plainAttrs_list PySem.F.slot_list_append PySem.F.type_list_append mt_append (pv 7) (pa_cons (pe_ix ix_list (pe_lst (pa_cons (pv 4) (pa_cons (pv 5) pa_nil))) (pe_callTy call_int1 rfl T.z_int boot_int (pa_cons (pe_cmpR op_in_seq (pv 4) (pv 7) (by with_unfolding_all rfl)) pa_nil)) (fun _ _ => rfl)) pa_nil)))) pss_nil)))))
  (pss_cons (ps_cut (ps_if (pt_cmpR op_lt (pe_callB call_len_seq rfl T.z_len PySem.boot_len (pa_cons (pv 7) pa_nil)) (pv 1) (nomark _)) (pss_one (ps_ret (pe_un un_neg pe_int))) pss_nil))
  (pss_one (ps_ret pe_non)))))))),
    rd__law_due W l200 q e⟩
open HT in
theorem sIx_n (n d : Nat) (i : Nat) : sIx n d (some (i : Int)) = min i n := sIx_nat _ _ i
open HT in
theorem cut_take {xs : List V} (i : Nat) : cutV xs none (some (i : Int)) = xs.take i := by
  unfold cutV
  rw [sIx_none, Nat.sub_zero, List.drop_zero, sIx_n]
  by_cases c : i ≤ xs.length
  · rw [Nat.min_eq_left c]
  · rw [Nat.min_eq_right (by omega), List.take_of_length_le (Nat.le_refl _), List.take_of_length_le (by omega)]
open HT in
theorem cut_drop {xs : List V} (i : Nat) : cutV xs (some (i : Int)) none = xs.drop i := by
  unfold cutV
  rw [sIx_none, sIx_n]
  by_cases c : i ≤ xs.length
  · rw [Nat.min_eq_left c, List.take_of_length_le (by rw [List.length_drop]; exact Nat.le_refl _)]
  · rw [Nat.min_eq_right (by omega), Nat.sub_self, List.take_zero, List.drop_eq_nil_of_le (by omega)]
theorem Tps.take {α : Type} {f : α → List V} {H : Hp} {ts : List Addr} {bs : List α} (h : Tps f H ts bs) (k : Nat) : Tps f H (ts.take k) (bs.take k) := by
  refine ⟨by rw [List.length_take, List.length_take, h.1], fun i t b e1 e2 => ?_⟩
  by_cases c : i < k
  · rw [List.getElem?_take_of_lt c] at e1 e2
    exact h.2 i t b e1 e2
  · rw [List.getElem?_take_eq_none (by omega)] at e1
    cases e1
theorem Tps.drop {α : Type} {f : α → List V} {H : Hp} {ts : List Addr} {bs : List α} (h : Tps f H ts bs) (k : Nat) : Tps f H (ts.drop k) (bs.drop k) := by
  refine ⟨by rw [List.length_drop, List.length_drop, h.1], fun i t b e1 e2 => ?_⟩
  rw [List.getElem?_drop] at e1 e2
  exact h.2 _ t b e1 e2
theorem Tps.one {α : Type} {f : α → List V} {H : Hp} {t : Addr} {b : α} (h : H t = some (.tup (f b))) : Tps f H [t] [b] := by
  refine ⟨rfl, fun i x y e1 e2 => ?_⟩
  match i, e1, e2 with
  | 0, e1, e2 =>
    cases e1
    cases e2
    exact h
theorem Tps.rep {α : Type} {f : α → List V} {H : Hp} {t : Addr} {b : α} (h : H t = some (.tup (f b))) (n : Nat) : Tps f H (List.replicate n t) (List.replicate n b) := by
  refine ⟨by rw [List.length_replicate, List.length_replicate], fun i x y e1 e2 => ?_⟩
  have h1 := List.eq_of_mem_replicate (mem_at e1)
  have h2 := List.eq_of_mem_replicate (mem_at e2)
  rw [h1, h2]
  exact h
theorem Tps.rev {α : Type} {f : α → List V} {H : Hp} {ts : List Addr} {bs : List α} (h : Tps f H ts bs) : Tps f H ts.reverse bs.reverse := by
  refine ⟨by rw [List.length_reverse, List.length_reverse, h.1], fun i t b e1 e2 => ?_⟩
  have hi : i < ts.length := by
    have := (List.getElem?_eq_some_iff.mp e1).1
    rwa [List.length_reverse] at this
  rw [List.getElem?_reverse hi] at e1
  rw [List.getElem?_reverse (by rw [← h.1]; exact hi), ← h.1] at e2
  exact h.2 _ t b e1 e2
theorem rep_refs (n : Nat) (t : Addr) : (List.replicate n [V.ref t]).flatten = (List.replicate n t).map V.ref := by
  induction n with
  | zero => rfl
  | succ n ih => rw [List.replicate_succ, List.flatten_cons, ih, List.replicate_succ, List.map_cons]; rfl
theorem at_small {xs : List V} {k : Int} (h0 : 0 ≤ k) (h1 : k < xs.length) : ∃ v, atI xs k = some v ∧ v ∈ xs := by
  obtain ⟨j, rfl⟩ := Int.eq_ofNat_of_zero_le h0
  have hj : j < xs.length := by omega
  exact ⟨xs[j], atI_nat (List.getElem?_eq_getElem hj), List.getElem_mem hj⟩
theorem at_ints {xs : List V} {k : Int} (h0 : 0 ≤ k) (h1 : k < xs.length) (hx : ∀ x ∈ xs, ∃ n : Int, x = .int n) : ∃ n : Int, atI xs k = some (.int n) := by
  obtain ⟨v, e, hv⟩ := at_small h0 h1
  obtain ⟨n, rfl⟩ := hx v hv
  exact ⟨n, e⟩
theorem cut63s (ns : List Int) : ∃ ms : List Int, cutV (ns.map V.int) none (some 63) = ms.map V.int := ⟨ns.take 63, by rw [List.map_take]; exact cut_take 63⟩
open HT in
theorem cut_not {a b c : V} : ¬ (sIx [a, b, c].length 0 none = 0 ∧ sIx [a, b, c].length [a, b, c].length (some 2) = [a, b, c].length) := fun z => absurd z.2 (by show min 2 3 ≠ 3; decide)
theorem pow29 : CPow 10 29 := ⟨by decide, by decide, by decide⟩
def t__law_spoiled_0 (K : PySem.W.Frag) : TS :=
  (tIfS (tAnd (tTest (tOp rEq (tVar 10) (tC (.int 5)))) (tTest (tOp (rI0 fun i j => .bl (decide (j < i))) (tCB (fun xs H Q => ∃ p ys, xs = [.ref p] ∧ (SqL K H p ys ∨ SqT K H p ys) ∧ Q (.int ys.length) H) (tCons (tVar 4) tNil)) (tC (.int 0))))) (tRet (tTup (tCons (tVar 3) (tCons (tOp rCat (tVar 4) (tOp rRep (tLst (tCons (tOp (rIxL K) (tVar 4) (tOp (rI (fun _ j => 0 < j) fun i j => .int (i % j)) (tVar 7) (tCB (fun xs H Q => ∃ p ys, xs = [.ref p] ∧ (SqL K H p ys ∨ SqT K H p ys) ∧ Q (.int ys.length) H) (tCons (tVar 4) tNil)))) tNil)) (tOp (rI0 fun i j => .int (i - j)) (tOp (rI0 fun i j => .int (i + j)) (tC (.int 119)) (tOp (rI (fun _ j => 0 < j) fun i j => .int (i % j)) (tOp (rIxL K) (tVar 5) (tC (.int 4))) (tC (.int 4)))) (tCB (fun xs H Q => ∃ p ys, xs = [.ref p] ∧ (SqL K H p ys ∨ SqT K H p ys) ∧ Q (.int ys.length) H) (tCons (tVar 4) tNil))))) tNil)))) tNext)
theorem t__law_spoiled_0_eq (K : PySem.W.Frag) (D : Ends) (σ : St) (H : Hp) : t__law_spoiled_0 K D σ H = (tIfS (tAnd (tTest (tOp rEq (tVar 10) (tC (.int 5)))) (tTest (tOp (rI0 fun i j => .bl (decide (j < i))) (tCB (fun xs H Q => ∃ p ys, xs = [.ref p] ∧ (SqL K H p ys ∨ SqT K H p ys) ∧ Q (.int ys.length) H) (tCons (tVar 4) tNil)) (tC (.int 0))))) (tRet (tTup (tCons (tVar 3) (tCons (tOp rCat (tVar 4) (tOp rRep (tLst (tCons (tOp (rIxL K) (tVar 4) (tOp (rI (fun _ j => 0 < j) fun i j => .int (i % j)) (tVar 7) (tCB (fun xs H Q => ∃ p ys, xs = [.ref p] ∧ (SqL K H p ys ∨ SqT K H p ys) ∧ Q (.int ys.length) H) (tCons (tVar 4) tNil)))) tNil)) (tOp (rI0 fun i j => .int (i - j)) (tOp (rI0 fun i j => .int (i + j)) (tC (.int 119)) (tOp (rI (fun _ j => 0 < j) fun i j => .int (i % j)) (tOp (rIxL K) (tVar 5) (tC (.int 4))) (tC (.int 4)))) (tCB (fun xs H Q => ∃ p ys, xs = [.ref p] ∧ (SqL K H p ys ∨ SqT K H p ys) ∧ Q (.int ys.length) H) (tCons (tVar 4) tNil))))) tNil)))) tNext) D σ H := rfl
def t__law_spoiled_1 (K : PySem.W.Frag) : TS :=
  (tSeq (tCut (t__law_spoiled_0 K))
  (tRet (tTup (tCons (tVar 3) (tCons (tRev K (tVar 4) (tPart (tUn (rU fun i => .int (-i)) (tC (.int 1))))) tNil)))))
theorem t__law_spoiled_1_eq (K : PySem.W.Frag) (D : Ends) (σ : St) (H : Hp) : t__law_spoiled_1 K D σ H = (tSeq (tCut (t__law_spoiled_0 K))
  (tRet (tTup (tCons (tVar 3) (tCons (tRev K (tVar 4) (tPart (tUn (rU fun i => .int (-i)) (tC (.int 1))))) tNil))))) D σ H := rfl
def t__law_spoiled_2 (K : PySem.W.Frag) : TS :=
  (tIfS (tTest (tOp rEq (tVar 10) (tC (.int 4)))) (tRet (tTup (tCons (tOp (rIxL K) (tLst (tCons (tC (.int 0)) (tCons (tUn (rU fun i => .int (-i)) (tC (.int 1))) (tCons (tOp (rI0 fun i j => .int (i + j)) (tVar 3) (tC (.int 1))) (tCons (tC (.int 61)) (tCons (tOp (rI0 fun i j => .int (i - j)) (tVar 3) (tC (.int 1))) (tCons (tOp (rI0 fun i j => .int (i - j)) (tUn (rU fun i => .int (-i)) (tC (.int 1))) (tVar 6)) (tCons (tOp (rI0 fun i j => .int (i + j)) (tC (.int 61)) (tVar 6)) (tCons (tC (.int 60)) tNil))))))))) (tOp (rI (fun _ j => 0 < j) fun i j => .int (i % j)) (tOp (rIxL K) (tVar 5) (tC (.int 4))) (tC (.int 8)))) (tCons (tVar 4) tNil)))) tNext)
theorem t__law_spoiled_2_eq (K : PySem.W.Frag) (D : Ends) (σ : St) (H : Hp) : t__law_spoiled_2 K D σ H = (tIfS (tTest (tOp rEq (tVar 10) (tC (.int 4)))) (tRet (tTup (tCons (tOp (rIxL K) (tLst (tCons (tC (.int 0)) (tCons (tUn (rU fun i => .int (-i)) (tC (.int 1))) (tCons (tOp (rI0 fun i j => .int (i + j)) (tVar 3) (tC (.int 1))) (tCons (tC (.int 61)) (tCons (tOp (rI0 fun i j => .int (i - j)) (tVar 3) (tC (.int 1))) (tCons (tOp (rI0 fun i j => .int (i - j)) (tUn (rU fun i => .int (-i)) (tC (.int 1))) (tVar 6)) (tCons (tOp (rI0 fun i j => .int (i + j)) (tC (.int 61)) (tVar 6)) (tCons (tC (.int 60)) tNil))))))))) (tOp (rI (fun _ j => 0 < j) fun i j => .int (i % j)) (tOp (rIxL K) (tVar 5) (tC (.int 4))) (tC (.int 8)))) (tCons (tVar 4) tNil)))) tNext) D σ H := rfl
def t__law_spoiled_3 (K : PySem.W.Frag) : TS :=
  (tIfS (tTest (tOp (rI0 fun i j => .bl (decide (i < j))) (tVar 10) (tC (.int 4)))) (tRet (tTup (tCons (tVar 3) (tCons (tOp rCat (tSl (rSlL K) (tVar 4) tNoPart (tPart (tVar 7))) (tSl (rSlL K) (tVar 4) (tPart (tOp (rI0 fun i j => .int (i + j)) (tVar 7) (tC (.int 1)))) tNoPart)) tNil)))) tNext)
theorem t__law_spoiled_3_eq (K : PySem.W.Frag) (D : Ends) (σ : St) (H : Hp) : t__law_spoiled_3 K D σ H = (tIfS (tTest (tOp (rI0 fun i j => .bl (decide (i < j))) (tVar 10) (tC (.int 4)))) (tRet (tTup (tCons (tVar 3) (tCons (tOp rCat (tSl (rSlL K) (tVar 4) tNoPart (tPart (tVar 7))) (tSl (rSlL K) (tVar 4) (tPart (tOp (rI0 fun i j => .int (i + j)) (tVar 7) (tC (.int 1)))) tNoPart)) tNil)))) tNext) D σ H := rfl
def t__law_spoiled_4 (K : PySem.W.Frag) : TS :=
  (tRet (tTup (tCons (tVar 3) (tCons (tOp rCat (tOp rCat (tSl (rSlL K) (tVar 4) tNoPart (tPart (tVar 7))) (tLst (tCons (tOp (rCatT K) (tSl (rSlT K) (tOp (rIxL K) (tVar 4) (tVar 7)) tNoPart (tPart (tC (.int 2)))) (tTup (tCons (tVar 12) tNil))) tNil))) (tSl (rSlL K) (tVar 4) (tPart (tOp (rI0 fun i j => .int (i + j)) (tVar 7) (tC (.int 1)))) tNoPart)) tNil))))
theorem t__law_spoiled_4_eq (K : PySem.W.Frag) (D : Ends) (σ : St) (H : Hp) : t__law_spoiled_4 K D σ H = (tRet (tTup (tCons (tVar 3) (tCons (tOp rCat (tOp rCat (tSl (rSlL K) (tVar 4) tNoPart (tPart (tVar 7))) (tLst (tCons (tOp (rCatT K) (tSl (rSlT K) (tOp (rIxL K) (tVar 4) (tVar 7)) tNoPart (tPart (tC (.int 2)))) (tTup (tCons (tVar 12) tNil))) tNil))) (tSl (rSlL K) (tVar 4) (tPart (tOp (rI0 fun i j => .int (i + j)) (tVar 7) (tC (.int 1)))) tNoPart)) tNil)))) D σ H := rfl
def t__law_spoiled_5 (K : PySem.W.Frag) : TS :=
  (tIfS (tAnd (tTest (tOp rEq (tVar 10) (tC (.int 1)))) (tTest (tOp (rI0 fun i j => .bl (decide (i < j))) (tVar 7) (tCB (fun xs H Q => ∃ p ys, xs = [.ref p] ∧ (SqL K H p ys ∨ SqT K H p ys) ∧ Q (.int ys.length) H) (tCons (tVar 4) tNil))))) (tSeq (tAsg (tOp (rIxL K) (tLst (tCons (tC (.int 0)) (tCons (tUn (rU fun i => .int (-i)) (tC (.int 1))) (tCons (tOp (rI0 fun i j => .int (i + j)) (tOp (rI CPow fun i j => .int (i ^ j.toNat)) (tC (.int 10)) (tC (.int 6))) (tC (.int 1))) (tCons (tOp (rI0 fun i j => .int (i + j)) (tOp (rI0 fun i j => .int (i + j)) (tOp (rI CPow fun i j => .int (i ^ j.toNat)) (tC (.int 10)) (tC (.int 6))) (tC (.int 1))) (tVar 6)) (tCons (tOp (rI0 fun i j => .int (i - j)) (tUn (rU fun i => .int (-i)) (tC (.int 1))) (tVar 6)) tNil)))))) (tOp (rI (fun _ j => 0 < j) fun i j => .int (i % j)) (tOp (rIxL K) (tVar 5) (tC (.int 4))) (tC (.int 5)))) (gName 12))
  (t__law_spoiled_4 K)) tNext)
theorem t__law_spoiled_5_eq (K : PySem.W.Frag) (D : Ends) (σ : St) (H : Hp) : t__law_spoiled_5 K D σ H = (tIfS (tAnd (tTest (tOp rEq (tVar 10) (tC (.int 1)))) (tTest (tOp (rI0 fun i j => .bl (decide (i < j))) (tVar 7) (tCB (fun xs H Q => ∃ p ys, xs = [.ref p] ∧ (SqL K H p ys ∨ SqT K H p ys) ∧ Q (.int ys.length) H) (tCons (tVar 4) tNil))))) (tSeq (tAsg (tOp (rIxL K) (tLst (tCons (tC (.int 0)) (tCons (tUn (rU fun i => .int (-i)) (tC (.int 1))) (tCons (tOp (rI0 fun i j => .int (i + j)) (tOp (rI CPow fun i j => .int (i ^ j.toNat)) (tC (.int 10)) (tC (.int 6))) (tC (.int 1))) (tCons (tOp (rI0 fun i j => .int (i + j)) (tOp (rI0 fun i j => .int (i + j)) (tOp (rI CPow fun i j => .int (i ^ j.toNat)) (tC (.int 10)) (tC (.int 6))) (tC (.int 1))) (tVar 6)) (tCons (tOp (rI0 fun i j => .int (i - j)) (tUn (rU fun i => .int (-i)) (tC (.int 1))) (tVar 6)) tNil)))))) (tOp (rI (fun _ j => 0 < j) fun i j => .int (i % j)) (tOp (rIxL K) (tVar 5) (tC (.int 4))) (tC (.int 5)))) (gName 12))
  (t__law_spoiled_4 K)) tNext) D σ H := rfl
def t__law_spoiled_6 (K : PySem.W.Frag) : TS :=
  (tRet (tTup (tCons (tVar 3) (tCons (tOp rCat (tOp rCat (tSl (rSlL K) (tVar 4) tNoPart (tPart (tVar 7))) (tLst (tCons (tOp (rCatT K) (tVar 11) (tTup (tCons (tOp (rI0 fun i j => .int (i + j)) (tC (.int 1)) (tOp (rI (fun _ j => 0 < j) fun i j => .int (i % j)) (tOp (rIxL K) (tVar 5) (tC (.int 4))) (tC (.int 9)))) tNil))) tNil))) (tSl (rSlL K) (tVar 4) (tPart (tVar 7)) tNoPart)) tNil))))
theorem t__law_spoiled_6_eq (K : PySem.W.Frag) (D : Ends) (σ : St) (H : Hp) : t__law_spoiled_6 K D σ H = (tRet (tTup (tCons (tVar 3) (tCons (tOp rCat (tOp rCat (tSl (rSlL K) (tVar 4) tNoPart (tPart (tVar 7))) (tLst (tCons (tOp (rCatT K) (tVar 11) (tTup (tCons (tOp (rI0 fun i j => .int (i + j)) (tC (.int 1)) (tOp (rI (fun _ j => 0 < j) fun i j => .int (i % j)) (tOp (rIxL K) (tVar 5) (tC (.int 4))) (tC (.int 9)))) tNil))) tNil))) (tSl (rSlL K) (tVar 4) (tPart (tVar 7)) tNoPart)) tNil)))) D σ H := rfl
def t__law_spoiled_7 (K : PySem.W.Frag) : TS :=
  (tIfS (tTest (tOp rEq (tVar 10) (tC (.int 0)))) (tSeq (tAsg (tOp (rIxL K) (tLst (tCons (tTup (tCons (tVar 8) (tCons (tVar 9) tNil))) (tCons (tTup (tCons (tVar 9) (tCons (tVar 8) tNil))) (tCons (tTup (tCons (tVar 9) (tCons (tVar 9) tNil))) tNil)))) (tOp (rI (fun _ j => 0 < j) fun i j => .int (i % j)) (tOp (rIxL K) (tVar 5) (tC (.int 4))) (tC (.int 3)))) (gName 11))
  (t__law_spoiled_6 K)) tNext)
theorem t__law_spoiled_7_eq (K : PySem.W.Frag) (D : Ends) (σ : St) (H : Hp) : t__law_spoiled_7 K D σ H = (tIfS (tTest (tOp rEq (tVar 10) (tC (.int 0)))) (tSeq (tAsg (tOp (rIxL K) (tLst (tCons (tTup (tCons (tVar 8) (tCons (tVar 9) tNil))) (tCons (tTup (tCons (tVar 9) (tCons (tVar 8) tNil))) (tCons (tTup (tCons (tVar 9) (tCons (tVar 9) tNil))) tNil)))) (tOp (rI (fun _ j => 0 < j) fun i j => .int (i % j)) (tOp (rIxL K) (tVar 5) (tC (.int 4))) (tC (.int 3)))) (gName 11))
  (t__law_spoiled_6 K)) tNext) D σ H := rfl
def t__law_spoiled_8 (K : PySem.W.Frag) : TS :=
  (tSeq (tCut (t__law_spoiled_7 K))
  (tSeq (tCut (t__law_spoiled_5 K))
  (tSeq (tCut (t__law_spoiled_3 K))
  (tSeq (tCut (t__law_spoiled_2 K))
  (t__law_spoiled_1 K)))))
theorem t__law_spoiled_8_eq (K : PySem.W.Frag) (D : Ends) (σ : St) (H : Hp) : t__law_spoiled_8 K D σ H = (tSeq (tCut (t__law_spoiled_7 K))
  (tSeq (tCut (t__law_spoiled_5 K))
  (tSeq (tCut (t__law_spoiled_3 K))
  (tSeq (tCut (t__law_spoiled_2 K))
  (t__law_spoiled_1 K))))) D σ H := rfl
def t__law_spoiled_9 (K : PySem.W.Frag) : TS :=
  (tSeq (tAsg (tOp (rI (fun _ j => 0 < j) fun i j => .int (i % j)) (tOp (rIxL K) (tVar 5) (tC (.int 3))) (tC (.int 8))) (gName 10))
  (t__law_spoiled_8 K))
theorem t__law_spoiled_9_eq (K : PySem.W.Frag) (D : Ends) (σ : St) (H : Hp) : t__law_spoiled_9 K D σ H = (tSeq (tAsg (tOp (rI (fun _ j => 0 < j) fun i j => .int (i % j)) (tOp (rIxL K) (tVar 5) (tC (.int 3))) (tC (.int 8))) (gName 10))
  (t__law_spoiled_8 K)) D σ H := rfl
def t__law_spoiled_10 (K : PySem.W.Frag) : TS :=
  (tSeq (tAsg (tOp (rI (fun _ j => 0 < j) fun i j => .int (i % j)) (tOp (rIxL K) (tVar 5) (tC (.int 2))) (tCB (fun xs H Q => ∃ i j, xs = [.int i, .int j] ∧ Q (.int (if j > i then j else i)) H) (tCons (tC (.int 1)) (tCons (tCB (fun xs H Q => ∃ i j, xs = [.int i, .int j] ∧ Q (.int (if j < i then j else i)) H) (tCons (tVar 3) (tCons (tC (.int 60)) tNil))) tNil)))) (gName 9))
  (t__law_spoiled_9 K))
theorem t__law_spoiled_10_eq (K : PySem.W.Frag) (D : Ends) (σ : St) (H : Hp) : t__law_spoiled_10 K D σ H = (tSeq (tAsg (tOp (rI (fun _ j => 0 < j) fun i j => .int (i % j)) (tOp (rIxL K) (tVar 5) (tC (.int 2))) (tCB (fun xs H Q => ∃ i j, xs = [.int i, .int j] ∧ Q (.int (if j > i then j else i)) H) (tCons (tC (.int 1)) (tCons (tCB (fun xs H Q => ∃ i j, xs = [.int i, .int j] ∧ Q (.int (if j < i then j else i)) H) (tCons (tVar 3) (tCons (tC (.int 60)) tNil))) tNil)))) (gName 9))
  (t__law_spoiled_9 K)) D σ H := rfl
def t__law_spoiled_11 (K : PySem.W.Frag) : TS :=
  (tSeq (tAsg (tOp (rIxL K) (tLst (tCons (tVar 3) (tCons (tUn (rU fun i => .int (-i)) (tC (.int 1))) (tCons (tOp (rI0 fun i j => .int (i + j)) (tVar 3) (tVar 6)) (tCons (tOp (rI0 fun i j => .int (i - j)) (tUn (rU fun i => .int (-i)) (tC (.int 1))) (tVar 6)) (tCons (tC (.int 0)) tNil)))))) (tOp (rI (fun _ j => 0 < j) fun i j => .int (i % j)) (tOp (rIxL K) (tVar 5) (tC (.int 1))) (tC (.int 5)))) (gName 8))
  (t__law_spoiled_10 K))
theorem t__law_spoiled_11_eq (K : PySem.W.Frag) (D : Ends) (σ : St) (H : Hp) : t__law_spoiled_11 K D σ H = (tSeq (tAsg (tOp (rIxL K) (tLst (tCons (tVar 3) (tCons (tUn (rU fun i => .int (-i)) (tC (.int 1))) (tCons (tOp (rI0 fun i j => .int (i + j)) (tVar 3) (tVar 6)) (tCons (tOp (rI0 fun i j => .int (i - j)) (tUn (rU fun i => .int (-i)) (tC (.int 1))) (tVar 6)) (tCons (tC (.int 0)) tNil)))))) (tOp (rI (fun _ j => 0 < j) fun i j => .int (i % j)) (tOp (rIxL K) (tVar 5) (tC (.int 1))) (tC (.int 5)))) (gName 8))
  (t__law_spoiled_10 K)) D σ H := rfl
def t__law_spoiled_12 (K : PySem.W.Frag) : TS :=
  (tSeq (tAsg (tOp (rI (fun _ j => 0 < j) fun i j => .int (i % j)) (tOp (rIxL K) (tVar 5) (tC (.int 0))) (tOp (rI0 fun i j => .int (i + j)) (tCB (fun xs H Q => ∃ p ys, xs = [.ref p] ∧ (SqL K H p ys ∨ SqT K H p ys) ∧ Q (.int ys.length) H) (tCons (tVar 4) tNil)) (tC (.int 1)))) (gName 7))
  (t__law_spoiled_11 K))
theorem t__law_spoiled_12_eq (K : PySem.W.Frag) (D : Ends) (σ : St) (H : Hp) : t__law_spoiled_12 K D σ H = (tSeq (tAsg (tOp (rI (fun _ j => 0 < j) fun i j => .int (i % j)) (tOp (rIxL K) (tVar 5) (tC (.int 0))) (tOp (rI0 fun i j => .int (i + j)) (tCB (fun xs H Q => ∃ p ys, xs = [.ref p] ∧ (SqL K H p ys ∨ SqT K H p ys) ∧ Q (.int ys.length) H) (tCons (tVar 4) tNil)) (tC (.int 1)))) (gName 7))
  (t__law_spoiled_11 K)) D σ H := rfl
def t__law_spoiled_13 (K : PySem.W.Frag) : TS :=
  (tSeq (tAsg (tOp (rI (fun _ j => 0 < j) fun i j => .int (i % j)) (tCB (rSum K) (tCons (tSl (rSlL K) (tVar 1) tNoPart (tPart (tC (.int 63)))) tNil)) (tOp (rI CPow fun i j => .int (i ^ j.toNat)) (tC (.int 10)) (tC (.int 29)))) (gName 6))
  (t__law_spoiled_12 K))
theorem t__law_spoiled_13_eq (K : PySem.W.Frag) (D : Ends) (σ : St) (H : Hp) : t__law_spoiled_13 K D σ H = (tSeq (tAsg (tOp (rI (fun _ j => 0 < j) fun i j => .int (i % j)) (tCB (rSum K) (tCons (tSl (rSlL K) (tVar 1) tNoPart (tPart (tC (.int 63)))) tNil)) (tOp (rI CPow fun i j => .int (i ^ j.toNat)) (tC (.int 10)) (tC (.int 29)))) (gName 6))
  (t__law_spoiled_12 K)) D σ H := rfl
def t__law_spoiled_14 (K : PySem.W.Frag) : TS :=
  (tSeq (tAsg (tComp (iRng1 (tCons (tC (.int 5)) tNil)) (gName 0) tNoTest (tCall (spMixed K) [] E0 (tCons (tVar 1) (tCons (tOp (rI0 fun i j => .int (i + j)) (tVar 2) (tVar 0)) tNil))) [none, some 1, some 2]) (gName 5))
  (t__law_spoiled_13 K))
theorem t__law_spoiled_14_eq (K : PySem.W.Frag) (D : Ends) (σ : St) (H : Hp) : t__law_spoiled_14 K D σ H = (tSeq (tAsg (tComp (iRng1 (tCons (tC (.int 5)) tNil)) (gName 0) tNoTest (tCall (spMixed K) [] E0 (tCons (tVar 1) (tCons (tOp (rI0 fun i j => .int (i + j)) (tVar 2) (tVar 0)) tNil))) [none, some 1, some 2]) (gName 5))
  (t__law_spoiled_13 K)) D σ H := rfl
def t__law_spoiled (K : PySem.W.Frag) : TS :=
  (tSeq (tAsg (tVar 0) (gTup K 2 (gCons (gName 3) (gCons (gName 4) gNil))))
  (t__law_spoiled_14 K))
theorem web_new {H0 H1 : Hp} {w' rl' : Addr} {ts' : List Addr} {m' : Int} {rs' : List Road} (h : H1 rl' = some (.lst (ts'.map V.ref))) (t : Tps rdv H1 ts' rs') (nw : H1 w' = none) : WebH (L2.upd H1 w' (.tup [.int m', .ref rl'])) w' rl' ts' m' rs' :=
  ⟨upd_same, same_new nw _ _ _ h, t.same (same_new nw _)⟩
theorem rd__law_spoiled {w rl p : Addr} {ts : List Addr} {m : Int} {rs : List Road} {ns : List Int} {k : Int} (W : WebH H w rl ts m rs) (l130 : rs.length ≤ 130) (hS : SqL K H p (ns.map V.int)) (hl : ns.length ≤ 63) (k0 : 0 ≤ k) (k1 : k ≤ 1000)
    (q : ∀ (w' rl' : Addr) (ts' : List Addr) (m' : Int) (rs' : List Road) (H' : Hp), Same H H' → WebH H' w' rl' ts' m' rs' → rs'.length ≤ max 122 (rs.length + 1) → Q (.ref w') H') :
    t__law_spoiled K { nx := fun _ H' => Q .non H', rt := Q } (L2.start ["_law_web_here", "_law_script", "_law_k", "_law_many", "_law_roads", "_law_draws", "_law_far", "_law_at", "_law_odd", "_law_other", "_law_way", "_law_pair", "_law_length_here"] [.ref w, .ref p, .int k]) H := by
  unfold t__law_spoiled
  simp_all only [t__law_spoiled_0_eq,t__law_spoiled_1_eq,t__law_spoiled_2_eq,t__law_spoiled_3_eq,t__law_spoiled_5_eq,t__law_spoiled_7_eq,tVar]
  refine ⟨_, SqT.of W.hw, rfl, _, _, rfl, _, _, rfl, rfl, ?_⟩
  (try simp only); first | rw [t__law_spoiled_4_eq] | rw [t__law_spoiled_6_eq] | rw [t__law_spoiled_8_eq] | rw [t__law_spoiled_9_eq] | rw [t__law_spoiled_10_eq] | rw [t__law_spoiled_11_eq] | rw [t__law_spoiled_12_eq] | rw [t__law_spoiled_13_eq] | rw [t__law_spoiled_14_eq]
  simp_all only [t__law_spoiled_0_eq,t__law_spoiled_1_eq,t__law_spoiled_2_eq,t__law_spoiled_3_eq,t__law_spoiled_5_eq,t__law_spoiled_7_eq,tVar]
  refine ⟨by decide, by decide, fun D hD => ?_⟩
  refine comp_rangeF (fun i ys σ H' => Same H H' ∧ (∃ ds : List Int, ys = ds.map V.int ∧ ds.length = i ∧ ∀ x ∈ ds, 0 ≤ x) ∧ ∃ x, σ = [x, some (.ref p), some (.int k)]) ⟨same_new hD _, ⟨[], rfl, rfl, fun x h => absurd h List.not_mem_nil⟩, _, rfl⟩ ?_ ?_
  · rintro i ys σ H' hi hD' ⟨s, ⟨ds, rfl, ln, gd⟩, y, rfl⟩
    simp_all only [t__law_spoiled_0_eq,t__law_spoiled_1_eq,t__law_spoiled_2_eq,t__law_spoiled_3_eq,t__law_spoiled_5_eq,t__law_spoiled_7_eq,tVar]
    refine ⟨p, ns, _, rfl, s.seq hS, hl, by omega, by omega, fun r r0 r1 => ?_⟩
    refine ⟨_, hD', by rw [List.length_map]; simp only [sizeLine]; omega, _, upd_same, s.put hD, ds ++ [r], by rw [List.map_append]; rfl, by rw [List.length_append, ln]; rfl, fun x hx => ?_⟩
    rcases List.mem_append.mp hx with h | h
    · exact gd x h
    · rw [List.mem_singleton.mp h]
      exact r0
  · rintro ys σ H1 hD1 ⟨s1, ⟨ds, rfl, ln, gd⟩, y, rfl⟩
    have W1 := W.same s1
    (try simp only); first | rw [t__law_spoiled_4_eq] | rw [t__law_spoiled_6_eq] | rw [t__law_spoiled_8_eq] | rw [t__law_spoiled_9_eq] | rw [t__law_spoiled_10_eq] | rw [t__law_spoiled_11_eq] | rw [t__law_spoiled_12_eq] | rw [t__law_spoiled_13_eq] | rw [t__law_spoiled_14_eq]
    simp_all only [t__law_spoiled_0_eq,t__law_spoiled_1_eq,t__law_spoiled_2_eq,t__law_spoiled_3_eq,t__law_spoiled_5_eq,t__law_spoiled_7_eq,tVar]
    obtain ⟨ms, em⟩ := cut63s ns
    refine ⟨_, s1.seq hS, fun c hc => ?_⟩
    rw [em]
    refine ⟨ms, SqL.of upd_same, pow29, by decide, ?_⟩
    generalize ms.sum % 100000000000000000000000000000 = far
    have s2 := s1.add hc (o := .lst (ms.map V.int))
    have hD2 := same_new hc (.lst (ms.map V.int)) _ _ hD1
    generalize L2.upd H1 c (.lst (ms.map V.int)) = H2 at s2 hD2 ⊢
    have W2 := W.same s2
    obtain ⟨d0, a0, b0⟩ := at_int (ns := ds) (k := 0) (by decide) (by omega)
    obtain ⟨d1, a1, b1⟩ := at_int (ns := ds) (k := 1) (by decide) (by omega)
    obtain ⟨d2, a2, b2⟩ := at_int (ns := ds) (k := 2) (by decide) (by omega)
    obtain ⟨d3, a3, b3⟩ := at_int (ns := ds) (k := 3) (by decide) (by omega)
    obtain ⟨d4, a4, b4⟩ := at_int (ns := ds) (k := 4) (by decide) (by omega)
    (try simp only); first | rw [t__law_spoiled_4_eq] | rw [t__law_spoiled_6_eq] | rw [t__law_spoiled_8_eq] | rw [t__law_spoiled_9_eq] | rw [t__law_spoiled_10_eq] | rw [t__law_spoiled_11_eq] | rw [t__law_spoiled_12_eq] | rw [t__law_spoiled_13_eq] | rw [t__law_spoiled_14_eq]
    simp_all only [t__law_spoiled_0_eq,t__law_spoiled_1_eq,t__law_spoiled_2_eq,t__law_spoiled_3_eq,t__law_spoiled_5_eq,t__law_spoiled_7_eq,tVar]
    refine ⟨_, SqL.of hD2, _, a0, _, .inl (SqL.of W2.hl), d0, rfl, by omega, ?_⟩
    rw [List.length_map]
    have ltr := W2.ht.1
    have at0 := Int.emod_nonneg d0 (show (ts.length : Int) + 1 ≠ 0 by omega)
    have at1 := Int.emod_lt_of_pos d0 (show 0 < (ts.length : Int) + 1 by omega)
    generalize d0 % ((ts.length : Int) + 1) = at_ at at0 at1 ⊢
    obtain ⟨u, rfl⟩ := Int.eq_ofNat_of_zero_le at0
    (try simp only); first | rw [t__law_spoiled_4_eq] | rw [t__law_spoiled_6_eq] | rw [t__law_spoiled_8_eq] | rw [t__law_spoiled_9_eq] | rw [t__law_spoiled_10_eq] | rw [t__law_spoiled_11_eq] | rw [t__law_spoiled_12_eq] | rw [t__law_spoiled_13_eq] | rw [t__law_spoiled_14_eq]
    simp_all only [t__law_spoiled_0_eq,t__law_spoiled_1_eq,t__law_spoiled_2_eq,t__law_spoiled_3_eq,t__law_spoiled_5_eq,t__law_spoiled_7_eq,tVar]
    refine ⟨by decide, fun e1 g1 => ?_⟩
    have s3 := same_new g1 (.lst [V.int m, V.int (-1), V.int (m + far), V.int (-1 - far), V.int 0])
    have h3 : (L2.upd H2 e1 (.lst [V.int m, V.int (-1), V.int (m + far), V.int (-1 - far), V.int 0])) e1 = some (.lst [V.int m, V.int (-1), V.int (m + far), V.int (-1 - far), V.int 0]) := upd_same
    generalize L2.upd H2 e1 (.lst [V.int m, V.int (-1), V.int (m + far), V.int (-1 - far), V.int 0]) = H3 at s3 h3 ⊢
    have hD3 := s3 _ _ hD2
    obtain ⟨odd, ho⟩ : ∃ odd : Int, atI [V.int m, V.int (-1), V.int (m + far), V.int (-1 - far), V.int 0] (d1 % 5) = some (.int odd) :=
      at_ints (Int.emod_nonneg _ (by decide)) (Int.emod_lt_of_pos _ (by decide)) (by simp)
    refine ⟨_, SqL.of hD3, _, a1, d1, rfl, by decide, _, SqL.of h3, _, ho, ?_⟩
    (try simp only); first | rw [t__law_spoiled_4_eq] | rw [t__law_spoiled_6_eq] | rw [t__law_spoiled_8_eq] | rw [t__law_spoiled_9_eq] | rw [t__law_spoiled_10_eq] | rw [t__law_spoiled_11_eq] | rw [t__law_spoiled_12_eq] | rw [t__law_spoiled_13_eq] | rw [t__law_spoiled_14_eq]
    simp_all only [t__law_spoiled_0_eq,t__law_spoiled_1_eq,t__law_spoiled_2_eq,t__law_spoiled_3_eq,t__law_spoiled_5_eq,t__law_spoiled_7_eq,tVar]
    refine ⟨_, SqL.of hD3, _, a2, ?_⟩
    refine ⟨d2, rfl, by split <;> (try split) <;> omega, ?_⟩
    generalize d2 % (if (if 60 < m then 60 else m) > 1 then if 60 < m then 60 else m else 1) = oth
    (try simp only); first | rw [t__law_spoiled_4_eq] | rw [t__law_spoiled_6_eq] | rw [t__law_spoiled_8_eq] | rw [t__law_spoiled_9_eq] | rw [t__law_spoiled_10_eq] | rw [t__law_spoiled_11_eq] | rw [t__law_spoiled_12_eq] | rw [t__law_spoiled_13_eq] | rw [t__law_spoiled_14_eq]
    simp_all only [t__law_spoiled_0_eq,t__law_spoiled_1_eq,t__law_spoiled_2_eq,t__law_spoiled_3_eq,t__law_spoiled_5_eq,t__law_spoiled_7_eq,tVar]
    refine ⟨_, SqL.of hD3, _, a3, d3, rfl, by decide, ?_⟩
    generalize d3 % 8 = way
    have s03 := s2.trans s3
    clear h3 ho a0 a1 a2 a3 b0 b1 b2 b3 g1 s3 hD2 W2 hc em W1
    have W3 := W.same s03
    have big : rs.length + 1 ≤ max 122 (rs.length + 1) := Nat.le_max_right _ _
    (try simp only); first | rw [t__law_spoiled_4_eq] | rw [t__law_spoiled_6_eq] | rw [t__law_spoiled_8_eq] | rw [t__law_spoiled_9_eq] | rw [t__law_spoiled_10_eq] | rw [t__law_spoiled_11_eq] | rw [t__law_spoiled_12_eq] | rw [t__law_spoiled_13_eq] | rw [t__law_spoiled_14_eq]
    simp_all only [t__law_spoiled_0_eq,t__law_spoiled_1_eq,t__law_spoiled_2_eq,t__law_spoiled_3_eq,t__law_spoiled_5_eq,t__law_spoiled_7_eq,tVar]
    refine ⟨fun σ H' => H' = H3 ∧ σ = [some (.ref w), some (.ref p), some (.int k), some (.int m), some (.ref rl), some (.ref D), some (.int far), some (.int u), some (.int odd), some (.int oth), some (.int way), none, none], ?_, ?_⟩
    · simp_all only [t__law_spoiled_0_eq,t__law_spoiled_1_eq,t__law_spoiled_2_eq,t__law_spoiled_3_eq,t__law_spoiled_5_eq,t__law_spoiled_7_eq,tVar]
      refine ite2 (fun z => ?_) (fun z => trivial)
      refine ⟨by decide, fun t1 g1 => ?_⟩
      have s4 := same_new g1 (.tup [V.int odd, V.int oth])
      have h4 : (L2.upd H3 t1 (.tup [V.int odd, V.int oth])) t1 = some (.tup [V.int odd, V.int oth]) := upd_same
      generalize L2.upd H3 t1 (.tup [V.int odd, V.int oth]) = H4 at s4 h4 ⊢
      refine ⟨by decide, fun t2 g2 => ?_⟩
      have s5 := same_new g2 (.tup [V.int oth, V.int odd])
      have h5 : (L2.upd H4 t2 (.tup [V.int oth, V.int odd])) t2 = some (.tup [V.int oth, V.int odd]) := upd_same
      generalize L2.upd H4 t2 (.tup [V.int oth, V.int odd]) = H5 at s5 h5 ⊢
      refine ⟨by decide, fun t3 g3 => ?_⟩
      have s6 := same_new g3 (.tup [V.int oth, V.int oth])
      have h6 : (L2.upd H5 t3 (.tup [V.int oth, V.int oth])) t3 = some (.tup [V.int oth, V.int oth]) := upd_same
      generalize L2.upd H5 t3 (.tup [V.int oth, V.int oth]) = H6 at s6 h6 ⊢
      refine ⟨by decide, fun l1 g4 => ?_⟩
      have s7 := same_new g4 (.lst [V.ref t1, V.ref t2, V.ref t3])
      have h7 : (L2.upd H6 l1 (.lst [V.ref t1, V.ref t2, V.ref t3])) l1 = some (.lst [V.ref t1, V.ref t2, V.ref t3]) := upd_same
      generalize L2.upd H6 l1 (.lst [V.ref t1, V.ref t2, V.ref t3]) = H7 at s7 h7 ⊢
      have s37 := ((s4.trans s5).trans s6).trans s7
      obtain ⟨v, hv, vin⟩ := at_small (xs := [V.ref t1, V.ref t2, V.ref t3]) (k := d4 % 3) (Int.emod_nonneg _ (by decide)) (Int.emod_lt_of_pos _ (by decide))
      obtain ⟨tp, x, y, rfl, htp⟩ : ∃ (tp : Addr) (x y : Int), v = .ref tp ∧ H7 tp = some (.tup [.int x, .int y]) := by
        simp only [List.mem_cons,List.not_mem_nil,or_false] at vin
        rcases vin with rfl | rfl | rfl
        · exact ⟨t1, _, _, rfl, s7 _ _ (s6 _ _ (s5 _ _ h4))⟩
        · exact ⟨t2, _, _, rfl, s7 _ _ (s6 _ _ h5)⟩
        · exact ⟨t3, _, _, rfl, s7 _ _ h6⟩
      refine ⟨_, SqL.of (s37 _ _ hD3), _, a4, d4, rfl, by decide, _, SqL.of h7, _, hv, ?_⟩
      have W7 := W3.same s37
      have hD7 := s37 _ _ hD3
      (try simp only); first | rw [t__law_spoiled_4_eq] | rw [t__law_spoiled_6_eq] | rw [t__law_spoiled_8_eq] | rw [t__law_spoiled_9_eq] | rw [t__law_spoiled_10_eq] | rw [t__law_spoiled_11_eq] | rw [t__law_spoiled_12_eq] | rw [t__law_spoiled_13_eq] | rw [t__law_spoiled_14_eq]
      simp_all only [t__law_spoiled_0_eq,t__law_spoiled_1_eq,t__law_spoiled_2_eq,t__law_spoiled_3_eq,t__law_spoiled_5_eq,t__law_spoiled_7_eq,tVar]
      refine ⟨_, SqL.of W7.hl, fun la ga => ?_⟩
      rw [cut_take, ← List.map_take]
      have s8 := same_new ga (.lst ((ts.take u).map V.ref))
      have h8 : (L2.upd H7 la (.lst ((ts.take u).map V.ref))) la = some (.lst ((ts.take u).map V.ref)) := upd_same
      generalize L2.upd H7 la (.lst ((ts.take u).map V.ref)) = H8 at s8 h8 ⊢
      refine ⟨_, SqL.of (s8 _ _ hD7), _, a4, d4, rfl, by decide, by decide, fun t4 gt4 => ?_⟩
      have s9 := same_new gt4 (.tup [V.int (1 + d4 % 9)])
      have h9 : (L2.upd H8 t4 (.tup [V.int (1 + d4 % 9)])) t4 = some (.tup [V.int (1 + d4 % 9)]) := upd_same
      generalize L2.upd H8 t4 (.tup [V.int (1 + d4 % 9)]) = H9 at s9 h9 ⊢
      refine ⟨_, SqT.of (s9 _ _ (s8 _ _ htp)), _, SqT.of h9, by simp, (show (3 : Nat) ≤ sizeLine by decide), fun z => by simp at z, fun _ t5 gt5 => ?_⟩
      rw [List.cons_append, List.cons_append, List.nil_append]
      have sA := same_new gt5 (.tup [V.int x, V.int y, V.int (1 + d4 % 9)])
      have hA : (L2.upd H9 t5 (.tup [V.int x, V.int y, V.int (1 + d4 % 9)])) t5 = some (.tup [V.int x, V.int y, V.int (1 + d4 % 9)]) := upd_same
      generalize L2.upd H9 t5 (.tup [V.int x, V.int y, V.int (1 + d4 % 9)]) = HA at sA hA ⊢
      refine ⟨by decide, fun l2 gl2 => ?_⟩
      have sB := same_new gl2 (.lst [V.ref t5])
      have hB : (L2.upd HA l2 (.lst [V.ref t5])) l2 = some (.lst [V.ref t5]) := upd_same
      generalize L2.upd HA l2 (.lst [V.ref t5]) = HB at sB hB ⊢
      have s8B := (s9.trans sA).trans sB
      refine ⟨_, s8B _ _ h8, _, hB, by rw [List.length_map, List.length_take, List.length_singleton]; simp only [sizeLine]; omega, fun l3 gl3 => ?_⟩
      have sC := same_new gl3 (.lst ((ts.take u).map V.ref ++ [V.ref t5]))
      have hC : (L2.upd HB l3 (.lst ((ts.take u).map V.ref ++ [V.ref t5]))) l3 = some (.lst ((ts.take u).map V.ref ++ [V.ref t5])) := upd_same
      generalize L2.upd HB l3 (.lst ((ts.take u).map V.ref ++ [V.ref t5])) = HC at sC hC ⊢
      have s7C := (s8.trans s8B).trans sC
      refine ⟨_, SqL.of (s7C _ _ W7.hl), fun l4 gl4 => ?_⟩
      rw [cut_drop, ← List.map_drop]
      have sD := same_new gl4 (.lst ((ts.drop u).map V.ref))
      have hD' : (L2.upd HC l4 (.lst ((ts.drop u).map V.ref))) l4 = some (.lst ((ts.drop u).map V.ref)) := upd_same
      generalize L2.upd HC l4 (.lst ((ts.drop u).map V.ref)) = HD at sD hD' ⊢
      refine ⟨_, sD _ _ hC, _, hD', by rw [List.length_append, List.length_map, List.length_take, List.length_singleton, List.length_map, List.length_drop]; simp only [sizeLine]; omega, fun l5 gl5 => ?_⟩
      have sE := same_new gl5 (.lst ((ts.take u).map V.ref ++ [V.ref t5] ++ (ts.drop u).map V.ref))
      have hE : (L2.upd HD l5 (.lst ((ts.take u).map V.ref ++ [V.ref t5] ++ (ts.drop u).map V.ref))) l5 = some (.lst ((ts.take u).map V.ref ++ [V.ref t5] ++ (ts.drop u).map V.ref)) := upd_same
      generalize L2.upd HD l5 (.lst ((ts.take u).map V.ref ++ [V.ref t5] ++ (ts.drop u).map V.ref)) = HE at sE hE ⊢
      have s7E := (s7C.trans sD).trans sE
      refine ⟨by decide, fun w' gw => ?_⟩
      have T := (W7.ht.same s7E)
      refine q w' l5 (ts.take u ++ [t5] ++ ts.drop u) m (rs.take u ++ [(x, y, 1 + d4 % 9)] ++ rs.drop u) _ ((s03.trans (s37.trans s7E)).add gw) (web_new (H0 := H) (by rw [List.map_append, List.map_append]; exact hE) (((T.take u).app (.one ((((sB.trans sC).trans sD).trans sE) _ _ hA))).app (T.drop u)) gw) ?_
      rw [List.length_append, List.length_append, List.length_take, List.length_drop, List.length_singleton]
      omega
    rintro σ H4 ⟨e4, rfl⟩
    rw [e4]
    simp_all only [t__law_spoiled_0_eq,t__law_spoiled_1_eq,t__law_spoiled_2_eq,t__law_spoiled_3_eq,t__law_spoiled_5_eq,t__law_spoiled_7_eq,tVar]
    refine ⟨fun σ H' => H' = H3 ∧ σ = [some (.ref w), some (.ref p), some (.int k), some (.int m), some (.ref rl), some (.ref D), some (.int far), some (.int u), some (.int odd), some (.int oth), some (.int way), none, none], ?_, ?_⟩
    · simp_all only [t__law_spoiled_0_eq,t__law_spoiled_1_eq,t__law_spoiled_2_eq,t__law_spoiled_3_eq,t__law_spoiled_5_eq,t__law_spoiled_7_eq,tVar]
      refine ite2 (fun z => ?_) (fun z => trivial)
      refine ⟨_, .inl (SqL.of W3.hl), ?_⟩
      rw [List.length_map]
      refine ite2 (fun z => ?_) (fun z => trivial)
      refine ⟨pow6, pow6, by decide, fun l0 g0 => ?_⟩
      have sz := same_new g0 (.lst [V.int 0, V.int (-1), V.int 1000001, V.int (1000001 + far), V.int (-1 - far)])
      have hz : (L2.upd H3 l0 (.lst [V.int 0, V.int (-1), V.int 1000001, V.int (1000001 + far), V.int (-1 - far)])) l0 = some (.lst [V.int 0, V.int (-1), V.int 1000001, V.int (1000001 + far), V.int (-1 - far)]) := upd_same
      generalize L2.upd H3 l0 (.lst [V.int 0, V.int (-1), V.int 1000001, V.int (1000001 + far), V.int (-1 - far)]) = Hz at sz hz ⊢
      obtain ⟨le, hle⟩ := at_ints (xs := [V.int 0, V.int (-1), V.int 1000001, V.int (1000001 + far), V.int (-1 - far)]) (k := d4 % 5) (Int.emod_nonneg _ (by decide)) (Int.emod_lt_of_pos _ (by decide)) (by simp)
      refine ⟨_, SqL.of (sz _ _ hD3), _, a4, d4, rfl, by decide, _, SqL.of hz, _, hle, ?_⟩
      have Wz := W3.same sz
      have hu : u < ts.length := by omega
      have et : ts[u]? = some ts[u] := List.getElem?_eq_getElem hu
      obtain ⟨r, er, hr⟩ := Wz.ht.at et
      generalize ts[u] = t at et hr
      (try simp only); first | rw [t__law_spoiled_4_eq] | rw [t__law_spoiled_6_eq] | rw [t__law_spoiled_8_eq] | rw [t__law_spoiled_9_eq] | rw [t__law_spoiled_10_eq] | rw [t__law_spoiled_11_eq] | rw [t__law_spoiled_12_eq] | rw [t__law_spoiled_13_eq] | rw [t__law_spoiled_14_eq]
      simp_all only [t__law_spoiled_0_eq,t__law_spoiled_1_eq,t__law_spoiled_2_eq,t__law_spoiled_3_eq,t__law_spoiled_5_eq,t__law_spoiled_7_eq,tVar]
      refine ⟨_, SqL.of Wz.hl, fun la ga => ?_⟩
      rw [cut_take, ← List.map_take]
      have sa := same_new ga (.lst ((ts.take u).map V.ref))
      have ha : (L2.upd Hz la (.lst ((ts.take u).map V.ref))) la = some (.lst ((ts.take u).map V.ref)) := upd_same
      generalize L2.upd Hz la (.lst ((ts.take u).map V.ref)) = Ha at sa ha ⊢
      refine ⟨_, SqL.of (sa _ _ Wz.hl), .ref t, atI_nat (by rw [List.getElem?_map, et]; rfl), ?_⟩
      refine ⟨t, _, rfl, SqT.of (sa _ _ hr), cut_not, fun t3 g3 => ?_⟩
      rw [show cutV (rdv r) none (some 2) = [V.int r.1, V.int r.2.1] from cut_take (xs := rdv r) 2]
      have sb := same_new g3 (.tup [V.int r.1, V.int r.2.1])
      have hb : (L2.upd Ha t3 (.tup [V.int r.1, V.int r.2.1])) t3 = some (.tup [V.int r.1, V.int r.2.1]) := upd_same
      generalize L2.upd Ha t3 (.tup [V.int r.1, V.int r.2.1]) = Hb at sb hb ⊢
      refine ⟨by decide, fun t4 g4 => ?_⟩
      have sc := same_new g4 (.tup [V.int le])
      have hc : (L2.upd Hb t4 (.tup [V.int le])) t4 = some (.tup [V.int le]) := upd_same
      generalize L2.upd Hb t4 (.tup [V.int le]) = Hc at sc hc ⊢
      refine ⟨_, rfl, _, SqT.of (sc _ _ hb), _, SqT.of hc, by simp, (show (3 : Nat) ≤ sizeLine by decide), fun z => by simp at z, fun _ t5 gt5 => ?_⟩
      rw [List.cons_append, List.cons_append, List.nil_append]
      have sA := same_new gt5 (.tup [V.int r.1, V.int r.2.1, V.int le])
      have hA : (L2.upd Hc t5 (.tup [V.int r.1, V.int r.2.1, V.int le])) t5 = some (.tup [V.int r.1, V.int r.2.1, V.int le]) := upd_same
      generalize L2.upd Hc t5 (.tup [V.int r.1, V.int r.2.1, V.int le]) = HA at sA hA ⊢
      refine ⟨by decide, fun l2 gl2 => ?_⟩
      have sB := same_new gl2 (.lst [V.ref t5])
      have hB : (L2.upd HA l2 (.lst [V.ref t5])) l2 = some (.lst [V.ref t5]) := upd_same
      generalize L2.upd HA l2 (.lst [V.ref t5]) = HB at sB hB ⊢
      have saB := ((sb.trans sc).trans sA).trans sB
      refine ⟨_, saB _ _ ha, _, hB, by rw [List.length_map, List.length_take, List.length_singleton]; simp only [sizeLine]; omega, fun l3 gl3 => ?_⟩
      have sC := same_new gl3 (.lst ((ts.take u).map V.ref ++ [V.ref t5]))
      have hC : (L2.upd HB l3 (.lst ((ts.take u).map V.ref ++ [V.ref t5]))) l3 = some (.lst ((ts.take u).map V.ref ++ [V.ref t5])) := upd_same
      generalize L2.upd HB l3 (.lst ((ts.take u).map V.ref ++ [V.ref t5])) = HC at sC hC ⊢
      have szC := (sa.trans saB).trans sC
      refine ⟨_, SqL.of (szC _ _ Wz.hl), fun l4 gl4 => ?_⟩
      rw [show ((u : Int) + 1) = ((u + 1 : Nat) : Int) from rfl, cut_drop, ← List.map_drop]
      have sD := same_new gl4 (.lst ((ts.drop (u + 1)).map V.ref))
      have hD' : (L2.upd HC l4 (.lst ((ts.drop (u + 1)).map V.ref))) l4 = some (.lst ((ts.drop (u + 1)).map V.ref)) := upd_same
      generalize L2.upd HC l4 (.lst ((ts.drop (u + 1)).map V.ref)) = HD at sD hD' ⊢
      refine ⟨_, sD _ _ hC, _, hD', by rw [List.length_append, List.length_map, List.length_take, List.length_singleton, List.length_map, List.length_drop]; simp only [sizeLine]; omega, fun l5 gl5 => ?_⟩
      have sE := same_new gl5 (.lst ((ts.take u).map V.ref ++ [V.ref t5] ++ (ts.drop (u + 1)).map V.ref))
      have hE : (L2.upd HD l5 (.lst ((ts.take u).map V.ref ++ [V.ref t5] ++ (ts.drop (u + 1)).map V.ref))) l5 = some (.lst ((ts.take u).map V.ref ++ [V.ref t5] ++ (ts.drop (u + 1)).map V.ref)) := upd_same
      generalize L2.upd HD l5 (.lst ((ts.take u).map V.ref ++ [V.ref t5] ++ (ts.drop (u + 1)).map V.ref)) = HE at sE hE ⊢
      have szE := (szC.trans sD).trans sE
      refine ⟨by decide, fun w' gw => ?_⟩
      have T := Wz.ht.same szE
      refine q w' l5 (ts.take u ++ [t5] ++ ts.drop (u + 1)) m (rs.take u ++ [(r.1, r.2.1, le)] ++ rs.drop (u + 1)) _ ((s03.trans (sz.trans szE)).add gw) (web_new (H0 := H) (by rw [List.map_append, List.map_append]; exact hE) (((T.take u).app (.one ((((sB.trans sC).trans sD).trans sE) _ _ hA))).app (T.drop (u + 1))) gw) ?_
      rw [List.length_append, List.length_append, List.length_take, List.length_drop, List.length_singleton]
      omega
    rintro σ H5 ⟨e5, rfl⟩
    rw [e5]
    simp_all only [t__law_spoiled_0_eq,t__law_spoiled_1_eq,t__law_spoiled_2_eq,t__law_spoiled_3_eq,t__law_spoiled_5_eq,t__law_spoiled_7_eq,tVar]
    refine ⟨fun σ H' => H' = H3 ∧ σ = [some (.ref w), some (.ref p), some (.int k), some (.int m), some (.ref rl), some (.ref D), some (.int far), some (.int u), some (.int odd), some (.int oth), some (.int way), none, none], ?_, ?_⟩
    · simp_all only [t__law_spoiled_0_eq,t__law_spoiled_1_eq,t__law_spoiled_2_eq,t__law_spoiled_3_eq,t__law_spoiled_5_eq,t__law_spoiled_7_eq,tVar]
      refine ite2 (fun z => ?_) (fun z => trivial)
      refine ⟨_, SqL.of W3.hl, fun la ga => ?_⟩
      rw [cut_take, ← List.map_take]
      have sa := same_new ga (.lst ((ts.take u).map V.ref))
      have ha : (L2.upd H3 la (.lst ((ts.take u).map V.ref))) la = some (.lst ((ts.take u).map V.ref)) := upd_same
      generalize L2.upd H3 la (.lst ((ts.take u).map V.ref)) = Ha at sa ha ⊢
      refine ⟨_, SqL.of (sa _ _ W3.hl), fun lb gb => ?_⟩
      rw [show ((u : Int) + 1) = ((u + 1 : Nat) : Int) from rfl, cut_drop, ← List.map_drop]
      have sb := same_new gb (.lst ((ts.drop (u + 1)).map V.ref))
      have hb : (L2.upd Ha lb (.lst ((ts.drop (u + 1)).map V.ref))) lb = some (.lst ((ts.drop (u + 1)).map V.ref)) := upd_same
      generalize L2.upd Ha lb (.lst ((ts.drop (u + 1)).map V.ref)) = Hb at sb hb ⊢
      refine ⟨_, sb _ _ ha, _, hb, by rw [List.length_map, List.length_take, List.length_map, List.length_drop]; simp only [sizeLine]; omega, fun lc gc => ?_⟩
      have sc := same_new gc (.lst ((ts.take u).map V.ref ++ (ts.drop (u + 1)).map V.ref))
      have hc : (L2.upd Hb lc (.lst ((ts.take u).map V.ref ++ (ts.drop (u + 1)).map V.ref))) lc = some (.lst ((ts.take u).map V.ref ++ (ts.drop (u + 1)).map V.ref)) := upd_same
      generalize L2.upd Hb lc (.lst ((ts.take u).map V.ref ++ (ts.drop (u + 1)).map V.ref)) = Hc at sc hc ⊢
      have sac := (sa.trans sb).trans sc
      have T := W3.ht.same sac
      refine ⟨by decide, fun w' gw => q w' lc (ts.take u ++ ts.drop (u + 1)) m (rs.take u ++ rs.drop (u + 1)) _ ((s03.trans sac).add gw) (web_new (H0 := H) (by rw [List.map_append]; exact hc) ((T.take u).app (T.drop (u + 1))) gw) ?_⟩
      rw [List.length_append, List.length_take, List.length_drop]
      omega
    rintro σ H6 ⟨e6, rfl⟩
    rw [e6]
    simp_all only [t__law_spoiled_0_eq,t__law_spoiled_1_eq,t__law_spoiled_2_eq,t__law_spoiled_3_eq,t__law_spoiled_5_eq,t__law_spoiled_7_eq,tVar]
    refine ⟨fun σ H' => H' = H3 ∧ σ = [some (.ref w), some (.ref p), some (.int k), some (.int m), some (.ref rl), some (.ref D), some (.int far), some (.int u), some (.int odd), some (.int oth), some (.int way), none, none], ?_, ?_⟩
    · simp_all only [t__law_spoiled_0_eq,t__law_spoiled_1_eq,t__law_spoiled_2_eq,t__law_spoiled_3_eq,t__law_spoiled_5_eq,t__law_spoiled_7_eq,tVar]
      refine ite2 (fun z => ?_) (fun z => trivial)
      refine ⟨by decide, fun la ga => ?_⟩
      have sa := same_new ga (.lst [V.int 0, V.int (-1), V.int (m + 1), V.int 61, V.int (m - 1), V.int (-1 - far), V.int (61 + far), V.int 60])
      have ha : (L2.upd H3 la (.lst [V.int 0, V.int (-1), V.int (m + 1), V.int 61, V.int (m - 1), V.int (-1 - far), V.int (61 + far), V.int 60])) la = some (.lst [V.int 0, V.int (-1), V.int (m + 1), V.int 61, V.int (m - 1), V.int (-1 - far), V.int (61 + far), V.int 60]) := upd_same
      generalize L2.upd H3 la (.lst [V.int 0, V.int (-1), V.int (m + 1), V.int 61, V.int (m - 1), V.int (-1 - far), V.int (61 + far), V.int 60]) = Ha at sa ha ⊢
      obtain ⟨m', hm'⟩ := at_ints (xs := [V.int 0, V.int (-1), V.int (m + 1), V.int 61, V.int (m - 1), V.int (-1 - far), V.int (61 + far), V.int 60]) (k := d4 % 8) (Int.emod_nonneg _ (by decide)) (Int.emod_lt_of_pos _ (by decide)) (by simp)
      exact ⟨_, SqL.of (sa _ _ hD3), _, a4, d4, rfl, by decide, _, SqL.of ha, _, hm', by decide, fun w' gw => q w' rl ts m' rs _ ((s03.trans sa).add gw) (web_new (H0 := H) (sa _ _ W3.hl) (W3.ht.same sa) gw) (by omega)⟩
    rintro σ H7 ⟨e7, rfl⟩
    rw [e7]
    simp_all only [t__law_spoiled_0_eq,t__law_spoiled_1_eq,t__law_spoiled_2_eq,t__law_spoiled_3_eq,t__law_spoiled_5_eq,t__law_spoiled_7_eq,tVar]
    refine ⟨fun σ H' => H' = H3 ∧ σ = [some (.ref w), some (.ref p), some (.int k), some (.int m), some (.ref rl), some (.ref D), some (.int far), some (.int u), some (.int odd), some (.int oth), some (.int way), none, none], ?_, ?_⟩
    · simp_all only [t__law_spoiled_0_eq,t__law_spoiled_1_eq,t__law_spoiled_2_eq,t__law_spoiled_3_eq,t__law_spoiled_5_eq,t__law_spoiled_7_eq,tVar]
      refine ite2 (fun z => ?_) (fun z => trivial)
      refine ⟨_, .inl (SqL.of W3.hl), ?_⟩
      rw [List.length_map]
      refine ite2 (fun z2 => ?_) (fun _ => trivial)
      have hn : u % ts.length < ts.length := Nat.mod_lt _ (by omega)
      have et : ts[u % ts.length]? = some ts[u % ts.length] := List.getElem?_eq_getElem hn
      obtain ⟨r, er, hr⟩ := W3.ht.at et
      generalize ts[u % ts.length] = t at et hr
      refine ⟨_, .inl (SqL.of W3.hl), by rw [List.length_map]; omega, _, SqL.of W3.hl, .ref t, ?_, by decide, fun la ga => ?_⟩
      · rw [List.length_map, show ((u : Int) % (ts.length : Int)) = ((u % ts.length : Nat) : Int) from rfl]
        exact atI_nat (by rw [List.getElem?_map, et]; rfl)
      have sa := same_new ga (.lst [V.ref t])
      have ha : (L2.upd H3 la (.lst [V.ref t])) la = some (.lst [V.ref t]) := upd_same
      generalize L2.upd H3 la (.lst [V.ref t]) = Ha at sa ha ⊢
      have e0 := Int.emod_nonneg d4 (show (4 : Int) ≠ 0 by decide)
      have e1' := Int.emod_lt_of_pos d4 (show (0 : Int) < 4 by decide)
      refine ⟨_, SqL.of (sa _ _ hD3), _, a4, d4, rfl, by decide, _, .inl (SqL.of (sa _ _ W3.hl)), _, ha, ?_⟩
      rw [List.length_map, List.length_singleton, rep_refs]
      have hN : (119 + d4 % 4 - (ts.length : Int)).toNat ≤ 122 ∧ ts.length + (119 + d4 % 4 - (ts.length : Int)).toNat ≤ max 122 (rs.length + 1) := by omega
      refine ⟨by omega, by omega, by simp only [sizeLine]; omega, fun lb gb => ?_⟩
      generalize (119 + d4 % 4 - (ts.length : Int)).toNat = N at hN gb ⊢
      have sb := same_new gb (.lst ((List.replicate N t).map V.ref))
      have hb : (L2.upd Ha lb (.lst ((List.replicate N t).map V.ref))) lb = some (.lst ((List.replicate N t).map V.ref)) := upd_same
      generalize L2.upd Ha lb (.lst ((List.replicate N t).map V.ref)) = Hb at sb hb ⊢
      refine ⟨_, sb _ _ (sa _ _ W3.hl), _, hb, by rw [List.length_map, List.length_map, List.length_replicate]; simp only [sizeLine]; omega, fun lc gc => ?_⟩
      have sc := same_new gc (.lst (ts.map V.ref ++ (List.replicate N t).map V.ref))
      have hc : (L2.upd Hb lc (.lst (ts.map V.ref ++ (List.replicate N t).map V.ref))) lc = some (.lst (ts.map V.ref ++ (List.replicate N t).map V.ref)) := upd_same
      generalize L2.upd Hb lc (.lst (ts.map V.ref ++ (List.replicate N t).map V.ref)) = Hc at sc hc ⊢
      have sac := (sa.trans sb).trans sc
      refine ⟨by decide, fun w' gw => q w' lc (ts ++ List.replicate N t) m (rs ++ List.replicate N r) _ ((s03.trans sac).add gw) (web_new (H0 := H) (by rw [List.map_append]; exact hc) ((W3.ht.same sac).app (.rep (sac _ _ hr) N)) gw) ?_⟩
      rw [List.length_append, List.length_replicate]
      omega
    rintro σ H8 ⟨e8, rfl⟩
    rw [e8]
    simp_all only [t__law_spoiled_0_eq,t__law_spoiled_1_eq,t__law_spoiled_2_eq,t__law_spoiled_3_eq,t__law_spoiled_5_eq,t__law_spoiled_7_eq,tVar]
    refine ⟨_, SqL.of W3.hl, fun la ga => ?_⟩
    rw [← List.map_reverse]
    have sa := same_new ga (.lst (ts.reverse.map V.ref))
    have ha : (L2.upd H3 la (.lst (ts.reverse.map V.ref))) la = some (.lst (ts.reverse.map V.ref)) := upd_same
    generalize L2.upd H3 la (.lst (ts.reverse.map V.ref)) = Ha at sa ha ⊢
    refine ⟨by decide, fun w' gw => q w' la ts.reverse m rs.reverse _ ((s03.trans sa).add gw) (web_new (H0 := H) ha (W3.ht.same sa).rev gw) ?_⟩
    rw [List.length_reverse]
    omega
theorem sc__law_spoiled : FnScope ["_law_web_here", "_law_script", "_law_k", "_law_many", "_law_roads", "_law_draws", "_law_far", "_law_at", "_law_odd", "_law_other", "_law_way", "_law_pair", "_law_length_here"] ["_law_web_here", "_law_script", "_law_k"] (defScope s__law_spoiled) := ⟨rfl, rfl, rfl, by decide +kernel, rfl, by decide +kernel, by decide +kernel⟩
theorem ok__law_spoiled (T : Txt K mg a) : FnOk P w K mg base CX0 2 a.f__law_spoiled a.d__law_spoiled ["_law_web_here", "_law_script", "_law_k"] (spSpoiled K) := by
  have G__law_mixed := ok__law_mixed (P := P) (w := w) (base := base) T
  refine T.F__law_spoiled.ok sc__law_spoiled (fun vs H Q E h => ?_) (fun cdv A outer s H vs Q E hr h => ?_)
  · obtain ⟨w', rl, p, ts, m, rs, ns, k, rfl, W, l130, hS, hl, k0, k1, q⟩ := h
    rfl
  obtain ⟨w', rl, p, ts, m, rs, ns, k, rfl, W, l130, hS, hl, k0, k1, q⟩ := h
  exact ⟨t__law_spoiled K, (pss_cons (ps_asg (pv 0) (pg_tup rfl (pgs_cons (pg_name (i := 3) sc__law_spoiled.nd rfl (Or.inl rfl)) (pgs_cons (pg_name (i := 4) sc__law_spoiled.nd rfl (Or.inl rfl)) pgs_nil))))
  (pss_cons (ps_setComp (i := 5) sc__law_spoiled.nd rfl rfl (sc := defScope s__law_spoiled) (N := ["_law_web_here", "_law_script", "_law_k", "_law_many", "_law_roads", "_law_draws", "_law_far", "_law_at", "_law_odd", "_law_other", "_law_way", "_law_pair", "_law_length_here"]) (Nc := ["_law_j", "_law_script", "_law_k"]) (cap := [none, some 1, some 2]) rfl rfl rfl (.of (by decide +kernel)) (pi_range1 rfl T.z_range (pa_cons pe_int pa_nil)) (fun _ _ _ _ => (pg_name (i := 0) (show List.Nodup (["_law_j", "_law_script", "_law_k"] : List Str) from by decide) rfl (Or.inl rfl))) (fun _ _ _ _ => pts_nil) (fun _ _ _ _ => (pe_call G__law_mixed (hr.mono (by decide)) rfl T.m__law_mixed T.F__law_mixed.kp T.b__law_mixed .nil pass0 (pa_cons (pv 1) (pa_cons (pe_op op_add (pv 2) (pv 0)) pa_nil)))))
  (pss_cons (ps_set (i := 6) sc__law_spoiled.nd rfl (Or.inl rfl) (pe_op op_mod (pe_callB (call_sum rfl) rfl T.z_sum PyProof.Rows.boot_sum (pa_cons (pe_slice sl_list (pv 1) po_none (po_some pe_int)) pa_nil)) (pe_op op_pow pe_int pe_int)))
  (pss_cons (ps_set (i := 7) sc__law_spoiled.nd rfl (Or.inl rfl) (pe_op op_mod (pe_ix ix_list (pv 5) pe_int (fun _ _ => rfl)) (pe_op op_add (pe_callB call_len_seq rfl T.z_len PySem.boot_len (pa_cons (pv 4) pa_nil)) pe_int)))
  (pss_cons (ps_set (i := 8) sc__law_spoiled.nd rfl (Or.inl rfl) (pe_ix ix_list (pe_lst (pa_cons (pv 3) (pa_cons (pe_un un_neg pe_int) (pa_cons (pe_op op_add (pv 3) (pv 6)) (pa_cons (pe_op op_sub (pe_un un_neg pe_int) (pv 6)) (pa_cons pe_int pa_nil)))))) (pe_op op_mod (pe_ix ix_list (pv 5) pe_int (fun _ _ => rfl)) pe_int) (fun _ _ => rfl)))
  (pss_cons (ps_set (i := 9) sc__law_spoiled.nd rfl (Or.inl rfl) (pe_op op_mod (pe_ix ix_list (pv 5) pe_int (fun _ _ => rfl)) (pe_callB (call_max2 rfl) rfl T.z_max PyProof.Rows.boot_max (pa_cons pe_int (pa_cons (pe_callB (call_min2 rfl) rfl T.z_min PyProof.Rows.boot_min (pa_cons (pv 3) (pa_cons pe_int pa_nil))) pa_nil)))))
  (pss_cons (ps_set (i := 10) sc__law_spoiled.nd rfl (Or.inl rfl) (pe_op op_mod (pe_ix ix_list (pv 5) pe_int (fun _ _ => rfl)) pe_int))
  (pss_cons (ps_cut (ps_if (pt_cmpR op_eq (pv 10) pe_int (nomark _)) (pss_cons (ps_set (i := 11) sc__law_spoiled.nd rfl (Or.inl rfl) (pe_ix ix_list (pe_lst (pa_cons (pe_tup (pa_cons (pv 8) (pa_cons (pv 9) pa_nil))) (pa_cons (pe_tup (pa_cons (pv 9) (pa_cons (pv 8) pa_nil))) (pa_cons (pe_tup (pa_cons (pv 9) (pa_cons (pv 9) pa_nil))) pa_nil)))) (pe_op op_mod (pe_ix ix_list (pv 5) pe_int (fun _ _ => rfl)) pe_int) (fun _ _ => rfl)))
  (pss_one (ps_ret (pe_tup (pa_cons (pv 3) (pa_cons (pe_op op_cat (pe_op op_cat (pe_slice sl_list (pv 4) po_none (po_some (pv 7))) (pe_lst (pa_cons (pe_op op_catT (pv 11) (pe_tup (pa_cons (pe_op op_add pe_int (pe_op op_mod (pe_ix ix_list (pv 5) pe_int (fun _ _ => rfl)) pe_int)) pa_nil))) pa_nil))) (pe_slice sl_list (pv 4) (po_some (pv 7)) po_none)) pa_nil)))))) pss_nil))
  (pss_cons (ps_cut (ps_if (PW.pt (pw_and (pt_cmpR op_eq (pv 10) pe_int (nomark _)) (pw_and1 (pt_cmpR op_lt (pv 7) (pe_callB call_len_seq rfl T.z_len PySem.boot_len (pa_cons (pv 4) pa_nil)) (nomark _))))) (pss_cons (ps_set (i := 12) sc__law_spoiled.nd rfl (Or.inl rfl) (pe_ix ix_list (pe_lst (pa_cons pe_int (pa_cons (pe_un un_neg pe_int) (pa_cons (pe_op op_add (pe_op op_pow pe_int pe_int) pe_int) (pa_cons (pe_op op_add (pe_op op_add (pe_op op_pow pe_int pe_int) pe_int) (pv 6)) (pa_cons (pe_op op_sub (pe_un un_neg pe_int) (pv 6)) pa_nil)))))) (pe_op op_mod (pe_ix ix_list (pv 5) pe_int (fun _ _ => rfl)) pe_int) (fun _ _ => rfl)))
  (pss_one (ps_ret (pe_tup (pa_cons (pv 3) (pa_cons (pe_op op_cat (pe_op op_cat (pe_slice sl_list (pv 4) po_none (po_some (pv 7))) (pe_lst (pa_cons (pe_op op_catT (pe_slice sl_tup (pe_ix ix_list (pv 4) (pv 7) (fun _ _ => rfl)) po_none (po_some pe_int)) (pe_tup (pa_cons (pv 12) pa_nil))) pa_nil))) (pe_slice sl_list (pv 4) (po_some (pe_op op_add (pv 7) pe_int)) po_none)) pa_nil)))))) pss_nil))
  (pss_cons (ps_cut (ps_if (pt_cmpR op_lt (pv 10) pe_int (nomark _)) (pss_one (ps_ret (pe_tup (pa_cons (pv 3) (pa_cons (pe_op op_cat (pe_slice sl_list (pv 4) po_none (po_some (pv 7))) (pe_slice sl_list (pv 4) (po_some (pe_op op_add (pv 7) pe_int)) po_none)) pa_nil))))) pss_nil))
  (pss_cons (ps_cut (ps_if (pt_cmpR op_eq (pv 10) pe_int (nomark _)) (pss_one (ps_ret (pe_tup (pa_cons (pe_ix ix_list (pe_lst (pa_cons pe_int (pa_cons (pe_un un_neg pe_int) (pa_cons (pe_op op_add (pv 3) pe_int) (pa_cons pe_int (pa_cons (pe_op op_sub (pv 3) pe_int) (pa_cons (pe_op op_sub (pe_un un_neg pe_int) (pv 6)) (pa_cons (pe_op op_add pe_int (pv 6)) (pa_cons pe_int pa_nil))))))))) (pe_op op_mod (pe_ix ix_list (pv 5) pe_int (fun _ _ => rfl)) pe_int) (fun _ _ => rfl)) (pa_cons (pv 4) pa_nil))))) pss_nil))
  (pss_cons (ps_cut (ps_if (PW.pt (pw_and (pt_cmpR op_eq (pv 10) pe_int (nomark _)) (pw_and1 (pt_cmpR op_gt (pe_callB call_len_seq rfl T.z_len PySem.boot_len (pa_cons (pv 4) pa_nil)) pe_int (nomark _))))) (pss_one (ps_ret (pe_tup (pa_cons (pv 3) (pa_cons (pe_op op_cat (pv 4) (pe_op op_rep (pe_lst (pa_cons (pe_ix ix_list (pv 4) (pe_op op_mod (pv 7) (pe_callB call_len_seq rfl T.z_len PySem.boot_len (pa_cons (pv 4) pa_nil))) (fun _ _ => rfl)) pa_nil)) (pe_op op_sub (pe_op op_add pe_int (pe_op op_mod (pe_ix ix_list (pv 5) pe_int (fun _ _ => rfl)) pe_int)) (pe_callB call_len_seq rfl T.z_len PySem.boot_len (pa_cons (pv 4) pa_nil))))) pa_nil))))) pss_nil))
  (pss_one (ps_ret (pe_tup (pa_cons (pv 3) (pa_cons (pe_rev (pv 4) (po_some (pe_un un_neg pe_int))) pa_nil))))))))))))))))),
    rd__law_spoiled W l130 hS hl k0 k1 q⟩
def t__law_caught (K : PySem.W.Frag) (a : Ad) : TS :=
  (tSeq (tAsg (tC .non) (gName 1))
  (tSeq (tTryV K (fun E' => (tDrop (tCallS (spLookWebX a) [] E' (tCons (tVar 0) tNil)))) (.ref a.c_HideError) 2
  (tAsg (tVar 2) (gName 1)))
  (tRet (tVar 1))))
theorem rd__law_caught {w rl : Addr} {ts : List Addr} {m : Int} {rs : List Road} (I : Isa K a) (W : WebH H w rl ts m rs) (l200 : rs.length ≤ 200) (q : Good m rs → ∀ H', Same H H' → Q .non H') (e : ∀ d, DueIs m rs d → ∀ (x : Addr) (H' : Hp), Same H H' → Cgt H' a x d → Q (.ref x) H') :
    t__law_caught K a { nx := fun _ H' => Q .non H', rt := Q } (L2.start ["_law_web_here", "_law_caught_here", "e"] [.ref w]) H := by
  unfold t__law_caught
  simp_all only [tVar]
  refine ⟨w, rl, ts, m, rs, rfl, W, l200, fun g H' s => q g H' s, fun d hd dx H' s ndx => ⟨I.ec, I.sub, fun x nx => e d hd x _ ((s.add ndx).add nx) ⟨dx, upd_same, ?_⟩⟩⟩
  rw [upd_ne (ne_of_none upd_same nx)]
  exact upd_same
theorem sc__law_caught : FnScope ["_law_web_here", "_law_caught_here", "e"] ["_law_web_here"] (defScope s__law_caught) := ⟨rfl, rfl, rfl, by decide +kernel, rfl, by decide +kernel, by decide +kernel⟩
theorem ok__law_caught (T : Txt K mg a) : FnOk P w K mg base CX0 6 a.f__law_caught a.d__law_caught ["_law_web_here"] (spCaught a) := by
  have G_look_web := ok_look_web (P := P) (w := w) (base := base) T
  refine T.F__law_caught.ok sc__law_caught (fun vs H Q E h => ?_) (fun cdv A outer s H vs Q E hr h => ?_)
  · obtain ⟨w', rl, ts, m, rs, rfl, W, l200, q, e⟩ := h
    rfl
  obtain ⟨w', rl, ts, m, rs, rfl, W, l200, q, e⟩ := h
  exact ⟨t__law_caught K a, (pss_cons (ps_set (i := 1) sc__law_caught.nd rfl (Or.inl rfl) pe_non)
  (pss_cons (ps_tryV (i := 2) T.m_HideError T.x_HideError rfl sc__law_caught.nd rfl rfl rfl rfl rfl rfl (fun pins E' => (pss_one (ps_expr (pe_callS G_look_web (hr.mono (by decide)) rfl T.m_look_web T.F_look_web.kp T.b_look_web .nil passSV (pa_cons (pv 0) pa_nil)))))
  (fun ea => (pss_one (ps_set (i := 1) sc__law_caught.nd rfl (Or.inl rfl) (pv 2)))))
  (pss_one (ps_ret (pv 1))))),
    rd__law_caught T.I W l200 q e⟩
def t_law_0 (K : PySem.W.Frag) (a : Ad) : TS :=
  (tRet (tAndV (tOp rEq (tCall (spClass a) [] E0 (tCons (tVar 5) tNil)) (tC (.int 0))) (tAndV (tCall spWhole [] E0 (tCons (tXFld K (tVar 5) "road") tNil)) (tOp rEq (tXFld K (tVar 5) "road") (tVar 3)))))
theorem t_law_0_eq (K : PySem.W.Frag) (a : Ad) (D : Ends) (σ : St) (H : Hp) : t_law_0 K a D σ H = (tRet (tAndV (tOp rEq (tCall (spClass a) [] E0 (tCons (tVar 5) tNil)) (tC (.int 0))) (tAndV (tCall spWhole [] E0 (tCons (tXFld K (tVar 5) "road") tNil)) (tOp rEq (tXFld K (tVar 5) "road") (tVar 3))))) D σ H := rfl
def t_law_1 (a : Ad) : TS :=
  (tIfS (tTest (tOp (fun x y H Q => y = .non ∧ Q (.bl (decide (x = .non))) H) (tVar 3) (tC .non))) (tRet (tAndV (tOp (fun x y H Q => y = .non ∧ Q (.bl (decide (x = .non))) H) (tVar 5) (tC .non)) (tOp (fun x y H Q => y = .non ∧ Q (.bl (decide (x = .non))) H) (tCall (spLookWebX a) [] E0 (tCons (tVar 4) tNil)) (tC .non)))) tNext)
theorem t_law_1_eq (a : Ad) (D : Ends) (σ : St) (H : Hp) : t_law_1 a D σ H = (tIfS (tTest (tOp (fun x y H Q => y = .non ∧ Q (.bl (decide (x = .non))) H) (tVar 3) (tC .non))) (tRet (tAndV (tOp (fun x y H Q => y = .non ∧ Q (.bl (decide (x = .non))) H) (tVar 5) (tC .non)) (tOp (fun x y H Q => y = .non ∧ Q (.bl (decide (x = .non))) H) (tCall (spLookWebX a) [] E0 (tCons (tVar 4) tNil)) (tC .non)))) tNext) D σ H := rfl
def t_law_2 (K : PySem.W.Frag) : TS :=
  (tAsg (tCall (spSpoiled K) [] E0 (tCons (tVar 1) (tCons (tVar 0) (tCons (tOp (rI0 fun i j => .int (i + j)) (tC (.int 301)) (tOp (rI IntMulOk fun i j => .int (i * j)) (tC (.int 5)) (tVar 2))) tNil)))) (gName 1))
theorem t_law_2_eq (K : PySem.W.Frag) (D : Ends) (σ : St) (H : Hp) : t_law_2 K D σ H = (tAsg (tCall (spSpoiled K) [] E0 (tCons (tVar 1) (tCons (tVar 0) (tCons (tOp (rI0 fun i j => .int (i + j)) (tC (.int 301)) (tOp (rI IntMulOk fun i j => .int (i * j)) (tC (.int 5)) (tVar 2))) tNil)))) (gName 1)) D σ H := rfl
def t_law_3 (K : PySem.W.Frag) (a : Ad) : TS :=
  (tSeq (tAsg (tCall spDue [] E0 (tCons (tVar 1) tNil)) (gName 3))
  (tSeq (tAsg (tTup (tCons (tOp (rIxT K) (tVar 1) (tC (.int 0))) (tCons (tCB (fun xs H Q => ∃ p ys, xs = [.ref p] ∧ (SqL K H p ys ∨ SqT K H p ys) ∧ ∀ l, H l = none → Q (.ref l) (upd H l (.lst ys))) (tCons (tOp (rIxT K) (tVar 1) (tC (.int 1))) tNil)) tNil))) (gName 4))
  (tSeq (tAsg (tCall (spCaught a) [] E0 (tCons (tVar 4) tNil)) (gName 5))
  (tSeq (tCut (tIfS (tTest (tOp (rNeD K) (tVar 4) (tVar 1))) (tRet (tC (.bl false))) tNext))
  (tSeq (tCut (t_law_1 a))
  (t_law_0 K a))))))
theorem t_law_3_eq (K : PySem.W.Frag) (a : Ad) (D : Ends) (σ : St) (H : Hp) : t_law_3 K a D σ H = (tSeq (tAsg (tCall spDue [] E0 (tCons (tVar 1) tNil)) (gName 3))
  (tSeq (tAsg (tTup (tCons (tOp (rIxT K) (tVar 1) (tC (.int 0))) (tCons (tCB (fun xs H Q => ∃ p ys, xs = [.ref p] ∧ (SqL K H p ys ∨ SqT K H p ys) ∧ ∀ l, H l = none → Q (.ref l) (upd H l (.lst ys))) (tCons (tOp (rIxT K) (tVar 1) (tC (.int 1))) tNil)) tNil))) (gName 4))
  (tSeq (tAsg (tCall (spCaught a) [] E0 (tCons (tVar 4) tNil)) (gName 5))
  (tSeq (tCut (tIfS (tTest (tOp (rNeD K) (tVar 4) (tVar 1))) (tRet (tC (.bl false))) tNext))
  (tSeq (tCut (t_law_1 a))
  (t_law_0 K a)))))) D σ H := rfl
def t_law (K : PySem.W.Frag) (a : Ad) : TS :=
  (tSeq (tAsg (tCall (spAnyWeb K) [] E0 (tCons (tVar 0) (tCons (tC (.int 0)) tNil))) (gName 1))
  (tSeq (tFor (iRng1 (tCons (tOp (rI (fun _ j => 0 < j) fun i j => .int (i % j)) (tCall (spMixed K) [] E0 (tCons (tVar 0) (tCons (tC (.int 300)) tNil))) (tC (.int 3))) tNil)) (gName 2)
  (t_law_2 K))
  (t_law_3 K a)))
theorem rd_law {p : Addr} {ns : List Int} (xa : XAttr K a.c_NoWeb "road") (hS : SqL K H p (ns.map V.int)) (hl : ns.length ≤ 63) (q : ∀ H', Q (.bl true) H') :
    t_law K a { nx := fun _ H' => Q .non H', rt := Q } (L2.start ["_law_script", "_law_web_here", "_law_k", "_law_due_here", "_law_handed", "_law_caught_here"] [.ref p]) H := by
  unfold t_law
  simp_all only [t_law_0_eq,t_law_1_eq,t_law_2_eq,t_law_3_eq,tVar]
  refine ⟨p, ns, 0, rfl, hS, hl, by decide, by decide, fun w rl ts m rs H1 s1 W1 G1 => ?_⟩
  simp_all only [t_law_0_eq,t_law_1_eq,t_law_2_eq,t_law_3_eq,tVar]
  refine ⟨p, ns, 300, rfl, s1.seq hS, hl, by decide, by decide, fun r r0 r1 => ?_⟩
  have c0 := Int.emod_nonneg r (show (3 : Int) ≠ 0 by decide)
  have c1 := Int.emod_lt_of_pos r (show (0 : Int) < 3 by decide)
  refine ⟨_, rfl, by decide, by omega, by omega, ?_⟩
  generalize r % 3 = cnt at c0 c1 ⊢
  refine for_rangeF (fun i σ H' => Same H H' ∧ ∃ (w rl : Addr) (ts : List Addr) (m : Int) (rs : List Road), WebH H' w rl ts m rs ∧ rs.length ≤ 122 + i ∧ ∃ x, σ = [some (.ref p), some (.ref w), x, none, none, none]) ⟨s1, w, rl, ts, m, rs, W1, by have := G1.l120; omega, _, rfl⟩ ?_ ?_
  · rintro i σ H2 hi ⟨s2, w, rl, ts, m, rs, W2, l2, x, rfl⟩
    simp_all only [t_law_0_eq,t_law_1_eq,t_law_2_eq,t_law_3_eq,tVar]
    exact ⟨mulL (by decide) (by decide), w, rl, p, ts, m, rs, ns, _, rfl, W2, by omega, s2.seq hS, hl, by omega, by omega, fun w' rl' ts' m' rs' H3 s3 W3 l3 => ⟨s2.trans s3, w', rl', ts', m', rs', W3, by omega, rfl⟩⟩
  · rintro σ H2 ⟨s2, w, rl, ts, m, rs, W2, l2, x, rfl⟩
    have lr : rs.length ≤ 124 := by omega
    simp_all only [t_law_0_eq,t_law_1_eq,t_law_2_eq,t_law_3_eq,tVar]
    refine ⟨w, rl, ts, m, rs, rfl, W2, by omega, fun g H3 s3 => ?_, fun d hd H3 s3 => ?_⟩
    · skip
      have W3 := W2.same s3
      refine ⟨_, SqT.of W3.hw, _, rfl, _, SqT.of W3.hw, _, rfl, _, rfl, _, .inl (SqL.of W3.hl), fun l gl => ?_⟩
      have s4 := same_new gl (.lst (ts.map V.ref))
      have h4 : (L2.upd H3 l (.lst (ts.map V.ref))) l = some (.lst (ts.map V.ref)) := upd_same
      generalize L2.upd H3 l (.lst (ts.map V.ref)) = H4 at s4 h4 ⊢
      refine ⟨by decide, fun hl' gh => ?_⟩
      have s5 := same_new gh (.tup [V.int m, V.ref l])
      have h5 : (L2.upd H4 hl' (.tup [V.int m, V.ref l])) hl' = some (.tup [V.int m, V.ref l]) := upd_same
      generalize L2.upd H4 hl' (.tup [V.int m, V.ref l]) = H5 at s5 h5 ⊢
      have s35 := s4.trans s5
      have WH : WebH H5 hl' l ts m rs := ⟨h5, s5 _ _ h4, W3.ht.same s35⟩
      refine ⟨hl', l, ts, m, rs, rfl, WH, by omega, fun _ H6 s6 => ?_, fun d hd => (hd.not g).elim⟩
      refine ⟨fun σ H' => H' = H6 ∧ σ = [some (.ref p), some (.ref w), x, some .non, some (.ref hl'), some .non], ?_, ?_⟩
      · simp_all only [t_law_0_eq,t_law_1_eq,t_law_2_eq,t_law_3_eq,tVar]
        exact ⟨2, by decide, _, .inr ⟨(WH.same s6).shows, (W3.same (s35.trans s6)).shows⟩⟩
      rintro σ H7 ⟨e7, rfl⟩
      rw [e7]
      simp_all only [t_law_0_eq,t_law_1_eq,t_law_2_eq,t_law_3_eq,tVar]
      refine ⟨fun _ _ => False, ?_, fun _ _ z => z.elim⟩
      simp_all only [t_law_0_eq,t_law_1_eq,t_law_2_eq,t_law_3_eq,tVar]
      exact ⟨hl', l, ts, m, rs, rfl, WH.same s6, by omega, fun _ H8 s8 => q H8, fun d hd => (hd.not g).elim⟩
    · skip
      have W3 := W2.same s3
      refine ⟨_, SqT.of W3.hw, _, rfl, _, SqT.of W3.hw, _, rfl, _, rfl, _, .inl (SqL.of W3.hl), fun l gl => ?_⟩
      have s4 := same_new gl (.lst (ts.map V.ref))
      have h4 : (L2.upd H3 l (.lst (ts.map V.ref))) l = some (.lst (ts.map V.ref)) := upd_same
      generalize L2.upd H3 l (.lst (ts.map V.ref)) = H4 at s4 h4 ⊢
      refine ⟨by decide, fun hl' gh => ?_⟩
      have s5 := same_new gh (.tup [V.int m, V.ref l])
      have h5 : (L2.upd H4 hl' (.tup [V.int m, V.ref l])) hl' = some (.tup [V.int m, V.ref l]) := upd_same
      generalize L2.upd H4 hl' (.tup [V.int m, V.ref l]) = H5 at s5 h5 ⊢
      have s35 := s4.trans s5
      have WH : WebH H5 hl' l ts m rs := ⟨h5, s5 _ _ h4, W3.ht.same s35⟩
      refine ⟨hl', l, ts, m, rs, rfl, WH, by omega, fun g => (hd.not g).elim, fun d' hd' y H6 s6 C6 => ?_⟩
      rw [hd'.one hd] at C6
      refine ⟨fun σ H' => H' = H6 ∧ σ = [some (.ref p), some (.ref w), x, some (.int d), some (.ref hl'), some (.ref y)], ?_, ?_⟩
      · simp_all only [t_law_0_eq,t_law_1_eq,t_law_2_eq,t_law_3_eq,tVar]
        exact ⟨2, by decide, _, .inr ⟨(WH.same s6).shows, (W3.same (s35.trans s6)).shows⟩⟩
      rintro σ H7 ⟨e7, rfl⟩
      rw [e7]
      simp_all only [t_law_0_eq,t_law_1_eq,t_law_2_eq,t_law_3_eq,tVar]
      refine ⟨fun σ H' => H' = H6 ∧ σ = [some (.ref p), some (.ref w), x, some (.int d), some (.ref hl'), some (.ref y)], ?_, ?_⟩
      · simp_all only [t_law_0_eq,t_law_1_eq,t_law_2_eq,t_law_3_eq,tVar]
      rintro σ H8 ⟨e8, rfl⟩
      rw [e8]
      simp_all only [t_law_0_eq,t_law_1_eq,t_law_2_eq,t_law_3_eq,tVar]
      refine ⟨y, d, rfl, C6, fun H9 s9 => ⟨rfl, ite2 (fun _ => ?_) (fun z => absurd rfl z)⟩⟩
      obtain ⟨dx, c1', c2'⟩ := C6.same s9
      refine ⟨a.c_NoWeb, dx, c1', _, c2', xa, .int d, rfl, d, rfl, true, rfl, iteT ?_⟩
      refine ⟨a.c_NoWeb, dx, c1', _, c2', xa, .int d, rfl, rfl, ?_⟩
      rw [decide_eq_true rfl]
      exact q H9
theorem sc_law : FnScope ["_law_script", "_law_web_here", "_law_k", "_law_due_here", "_law_handed", "_law_caught_here"] ["_law_script"] (defScope s_law) := ⟨rfl, rfl, rfl, by decide +kernel, rfl, by decide +kernel, by decide +kernel⟩
theorem ok_law (T : Txt K mg a) : FnOk P w K mg base CX0 7 a.f_law a.d_law ["_law_script"] (spLaw K) := by
  have G__law_any_web := ok__law_any_web (P := P) (w := w) (base := base) T
  have G__law_caught := ok__law_caught (P := P) (w := w) (base := base) T
  have G__law_class := ok__law_class (P := P) (w := w) (base := base) T
  have G__law_due := ok__law_due (P := P) (w := w) (base := base) T
  have G__law_mixed := ok__law_mixed (P := P) (w := w) (base := base) T
  have G__law_spoiled := ok__law_spoiled (P := P) (w := w) (base := base) T
  have G__law_whole := ok__law_whole (P := P) (w := w) (base := base) T
  have G_look_web := ok_look_web (P := P) (w := w) (base := base) T
  refine T.F_law.ok sc_law (fun vs H Q E h => ?_) (fun cdv A outer s H vs Q E hr h => ?_)
  · obtain ⟨p, ns, rfl, hS, hl, q⟩ := h
    rfl
  obtain ⟨p, ns, rfl, hS, hl, q⟩ := h
  exact ⟨t_law K a, (pss_cons (ps_set (i := 1) sc_law.nd rfl (Or.inl rfl) (pe_call G__law_any_web (hr.mono (by decide)) rfl T.m__law_any_web T.F__law_any_web.kp T.b__law_any_web .nil pass0 (pa_cons (pv 0) (pa_cons pe_int pa_nil))))
  (pss_cons (ps_for PassesOwn.never rfl (pi_range1 rfl T.z_range (pa_cons (pe_op op_mod (pe_call G__law_mixed (hr.mono (by decide)) rfl T.m__law_mixed T.F__law_mixed.kp T.b__law_mixed .nil pass0 (pa_cons (pv 0) (pa_cons pe_int pa_nil))) pe_int) pa_nil)) (pg_name (i := 2) sc_law.nd rfl (Or.inl rfl))
  (pss_one (ps_set (i := 1) sc_law.nd rfl (Or.inl rfl) (pe_call G__law_spoiled (hr.mono (by decide)) rfl T.m__law_spoiled T.F__law_spoiled.kp T.b__law_spoiled .nil pass0 (pa_cons (pv 1) (pa_cons (pv 0) (pa_cons (pe_op op_add pe_int (pe_op op_mulG pe_int (pv 2))) pa_nil)))))))
  (pss_cons (ps_set (i := 3) sc_law.nd rfl (Or.inl rfl) (pe_call G__law_due (hr.mono (by decide)) rfl T.m__law_due T.F__law_due.kp T.b__law_due .nil pass0 (pa_cons (pv 1) pa_nil)))
  (pss_cons (ps_set (i := 4) sc_law.nd rfl (Or.inl rfl) (pe_tup (pa_cons (pe_ix ix_tup (pv 1) pe_int (fun _ _ => rfl)) (pa_cons (pe_callTy call_list_of rfl T.z_list boot_list (pa_cons (pe_ix ix_tup (pv 1) pe_int (fun _ _ => rfl)) pa_nil)) pa_nil))))
  (pss_cons (ps_set (i := 5) sc_law.nd rfl (Or.inl rfl) (pe_call G__law_caught (hr.mono (by decide)) rfl T.m__law_caught T.F__law_caught.kp T.b__law_caught .nil pass0 (pa_cons (pv 4) pa_nil)))
  (pss_cons (ps_cut (ps_if (pt_cmpR (op_neD hr.units) (pv 4) (pv 1) (nomark _)) (pss_one (ps_ret pe_bl)) pss_nil))
  (pss_cons (ps_cut (ps_if (pt_cmpR op_isN (pv 3) pe_non (nomark _)) (pss_one (ps_ret (pe_and (pe_cmpR op_isN (pv 5) pe_non (nomark _)) (pe_one (pe_cmpR op_isN (pe_call G_look_web (hr.mono (by decide)) rfl T.m_look_web T.F_look_web.kp T.b_look_web .nil passV0 (pa_cons (pv 4) pa_nil)) pe_non (nomark _)))))) pss_nil))
  (pss_one (ps_ret (pe_and (pe_cmpR op_eq (pe_call G__law_class (hr.mono (by decide)) rfl T.m__law_class T.F__law_class.kp T.b__law_class .nil pass0 (pa_cons (pv 5) pa_nil)) pe_int (nomark _)) (pe_and (pe_call G__law_whole (hr.mono (by decide)) rfl T.m__law_whole T.F__law_whole.kp T.b__law_whole .nil pass0 (pa_cons (pe_xfld (pv 5) rfl) pa_nil)) (pe_one (pe_cmpR op_eq (pe_xfld (pv 5) rfl) (pv 3) (nomark _)))))))))))))),
    rd_law T.xa_NoWeb hS hl q⟩
end
theorem lstS {us : List Value} {n : Nat} (h : us.length = n + 1) : ∃ a t, us = a :: t ∧ t.length = n := by
  cases us with
  | nil => cases h
  | cons a t => exact ⟨a, t, rfl, Nat.succ.inj h⟩
theorem lst1 {us : List Value} (h : us.length = 1) : ∃ a0, us = [a0] := by
  obtain ⟨a0, u0, rfl, h0⟩ := lstS h
  cases List.eq_nil_of_length_eq_zero h0
  exact ⟨a0, rfl⟩
theorem lst2 {us : List Value} (h : us.length = 2) : ∃ a0, ∃ a1, us = [a0, a1] := by
  obtain ⟨a0, u0, rfl, h0⟩ := lstS h
  obtain ⟨a1, u1, rfl, h1⟩ := lstS h0
  cases List.eq_nil_of_length_eq_zero h1
  exact ⟨a0, a1, rfl⟩
theorem lst3 {us : List Value} (h : us.length = 3) : ∃ a0, ∃ a1, ∃ a2, us = [a0, a1, a2] := by
  obtain ⟨a0, u0, rfl, h0⟩ := lstS h
  obtain ⟨a1, u1, rfl, h1⟩ := lstS h0
  obtain ⟨a2, u2, rfl, h2⟩ := lstS h1
  cases List.eq_nil_of_length_eq_zero h2
  exact ⟨a0, a1, a2, rfl⟩
theorem lst4 {us : List Value} (h : us.length = 4) : ∃ a0, ∃ a1, ∃ a2, ∃ a3, us = [a0, a1, a2, a3] := by
  obtain ⟨a0, u0, rfl, h0⟩ := lstS h
  obtain ⟨a1, u1, rfl, h1⟩ := lstS h0
  obtain ⟨a2, u2, rfl, h2⟩ := lstS h1
  obtain ⟨a3, u3, rfl, h3⟩ := lstS h2
  cases List.eq_nil_of_length_eq_zero h3
  exact ⟨a0, a1, a2, a3, rfl⟩
theorem txt_mk {K : PySem.W.Frag} {h : Heap} {mg : Str → Option Value} (X : K.In h) (G : h.Ns mainGlobals mg)
    {f0 : Addr} {od0 an0 : Option Addr} {sl0 : Array (Option Value)} {oc0 kV0 dc0 pm0 cd0 ct0 : Value}
    (a0 : PySem.W.nsIn K mainGlobals "is_whole" = some (some (.ref f0))) (l0 : K.lookup f0 = some ⟨oc0, od0, .func (PySem.W.fnOf "is_whole" "is_whole" (defArgs s_is_whole) (defBody s_is_whole) (defScope s_is_whole) .none kV0 dc0 pm0 an0 cd0 ct0), sl0⟩) (c0 : PySem.W.codeIn K cd0 "is_whole" = true) (k0 : PySem.W.keepIn K (.ref f0) = true)
    {f1 : Addr} {od1 an1 : Option Addr} {sl1 : Array (Option Value)} {oc1 kV1 dc1 pm1 cd1 ct1 : Value}
    (a1 : PySem.W.nsIn K mainGlobals "is_within" = some (some (.ref f1))) (l1 : K.lookup f1 = some ⟨oc1, od1, .func (PySem.W.fnOf "is_within" "is_within" (defArgs s_is_within) (defBody s_is_within) (defScope s_is_within) .none kV1 dc1 pm1 an1 cd1 ct1), sl1⟩) (c1 : PySem.W.codeIn K cd1 "is_within" = true) (k1 : PySem.W.keepIn K (.ref f1) = true)
    {f2 : Addr} {od2 an2 : Option Addr} {sl2 : Array (Option Value)} {oc2 kV2 dc2 pm2 cd2 ct2 : Value}
    (a2 : PySem.W.nsIn K mainGlobals "is_road" = some (some (.ref f2))) (l2 : K.lookup f2 = some ⟨oc2, od2, .func (PySem.W.fnOf "is_road" "is_road" (defArgs s_is_road) (defBody s_is_road) (defScope s_is_road) .none kV2 dc2 pm2 an2 cd2 ct2), sl2⟩) (c2 : PySem.W.codeIn K cd2 "is_road" = true) (k2 : PySem.W.keepIn K (.ref f2) = true)
    {f3 : Addr} {od3 an3 : Option Addr} {sl3 : Array (Option Value)} {oc3 kV3 dc3 pm3 cd3 ct3 : Value}
    (a3 : PySem.W.nsIn K mainGlobals "places_come_to" = some (some (.ref f3))) (l3 : K.lookup f3 = some ⟨oc3, od3, .func (PySem.W.fnOf "places_come_to" "places_come_to" (defArgs s_places_come_to) (defBody s_places_come_to) (defScope s_places_come_to) .none kV3 dc3 pm3 an3 cd3 ct3), sl3⟩) (c3 : PySem.W.codeIn K cd3 "places_come_to" = true) (k3 : PySem.W.keepIn K (.ref f3) = true)
    {f4 : Addr} {od4 an4 : Option Addr} {sl4 : Array (Option Value)} {oc4 kV4 dc4 pm4 cd4 ct4 : Value}
    (a4 : PySem.W.nsIn K mainGlobals "look_web" = some (some (.ref f4))) (l4 : K.lookup f4 = some ⟨oc4, od4, .func (PySem.W.fnOf "look_web" "look_web" (defArgs s_look_web) (defBody s_look_web) (defScope s_look_web) .none kV4 dc4 pm4 an4 cd4 ct4), sl4⟩) (c4 : PySem.W.codeIn K cd4 "look_web" = true) (k4 : PySem.W.keepIn K (.ref f4) = true)
    {f5 : Addr} {od5 an5 : Option Addr} {sl5 : Array (Option Value)} {oc5 kV5 dc5 pm5 cd5 ct5 : Value}
    (a5 : PySem.W.nsIn K mainGlobals "_law_mixed" = some (some (.ref f5))) (l5 : K.lookup f5 = some ⟨oc5, od5, .func (PySem.W.fnOf "_law_mixed" "_law_mixed" (defArgs s__law_mixed) (defBody s__law_mixed) (defScope s__law_mixed) .none kV5 dc5 pm5 an5 cd5 ct5), sl5⟩) (c5 : PySem.W.codeIn K cd5 "_law_mixed" = true) (k5 : PySem.W.keepIn K (.ref f5) = true)
    {f6 : Addr} {od6 an6 : Option Addr} {sl6 : Array (Option Value)} {oc6 kV6 dc6 pm6 cd6 ct6 : Value}
    (a6 : PySem.W.nsIn K mainGlobals "_law_whole" = some (some (.ref f6))) (l6 : K.lookup f6 = some ⟨oc6, od6, .func (PySem.W.fnOf "_law_whole" "_law_whole" (defArgs s__law_whole) (defBody s__law_whole) (defScope s__law_whole) .none kV6 dc6 pm6 an6 cd6 ct6), sl6⟩) (c6 : PySem.W.codeIn K cd6 "_law_whole" = true) (k6 : PySem.W.keepIn K (.ref f6) = true)
    {f7 : Addr} {od7 an7 : Option Addr} {sl7 : Array (Option Value)} {oc7 kV7 dc7 pm7 cd7 ct7 : Value}
    (a7 : PySem.W.nsIn K mainGlobals "_law_class" = some (some (.ref f7))) (l7 : K.lookup f7 = some ⟨oc7, od7, .func (PySem.W.fnOf "_law_class" "_law_class" (defArgs s__law_class) (defBody s__law_class) (defScope s__law_class) .none kV7 dc7 pm7 an7 cd7 ct7), sl7⟩) (c7 : PySem.W.codeIn K cd7 "_law_class" = true) (k7 : PySem.W.keepIn K (.ref f7) = true)
    {f8 : Addr} {od8 an8 : Option Addr} {sl8 : Array (Option Value)} {oc8 kV8 dc8 pm8 cd8 ct8 : Value}
    (a8 : PySem.W.nsIn K mainGlobals "_law_length" = some (some (.ref f8))) (l8 : K.lookup f8 = some ⟨oc8, od8, .func (PySem.W.fnOf "_law_length" "_law_length" (defArgs s__law_length) (defBody s__law_length) (defScope s__law_length) .none kV8 dc8 pm8 an8 cd8 ct8), sl8⟩) (c8 : PySem.W.codeIn K cd8 "_law_length" = true) (k8 : PySem.W.keepIn K (.ref f8) = true)
    {f9 : Addr} {od9 an9 : Option Addr} {sl9 : Array (Option Value)} {oc9 kV9 dc9 pm9 cd9 ct9 : Value}
    (a9 : PySem.W.nsIn K mainGlobals "_law_web" = some (some (.ref f9))) (l9 : K.lookup f9 = some ⟨oc9, od9, .func (PySem.W.fnOf "_law_web" "_law_web" (defArgs s__law_web) (defBody s__law_web) (defScope s__law_web) .none kV9 dc9 pm9 an9 cd9 ct9), sl9⟩) (c9 : PySem.W.codeIn K cd9 "_law_web" = true) (k9 : PySem.W.keepIn K (.ref f9) = true)
    {f10 : Addr} {od10 an10 : Option Addr} {sl10 : Array (Option Value)} {oc10 kV10 dc10 pm10 cd10 ct10 : Value}
    (a10 : PySem.W.nsIn K mainGlobals "_law_any_web" = some (some (.ref f10))) (l10 : K.lookup f10 = some ⟨oc10, od10, .func (PySem.W.fnOf "_law_any_web" "_law_any_web" (defArgs s__law_any_web) (defBody s__law_any_web) (defScope s__law_any_web) .none kV10 dc10 pm10 an10 cd10 ct10), sl10⟩) (c10 : PySem.W.codeIn K cd10 "_law_any_web" = true) (k10 : PySem.W.keepIn K (.ref f10) = true)
    {f11 : Addr} {od11 an11 : Option Addr} {sl11 : Array (Option Value)} {oc11 kV11 dc11 pm11 cd11 ct11 : Value}
    (a11 : PySem.W.nsIn K mainGlobals "_law_due" = some (some (.ref f11))) (l11 : K.lookup f11 = some ⟨oc11, od11, .func (PySem.W.fnOf "_law_due" "_law_due" (defArgs s__law_due) (defBody s__law_due) (defScope s__law_due) .none kV11 dc11 pm11 an11 cd11 ct11), sl11⟩) (c11 : PySem.W.codeIn K cd11 "_law_due" = true) (k11 : PySem.W.keepIn K (.ref f11) = true)
    {f12 : Addr} {od12 an12 : Option Addr} {sl12 : Array (Option Value)} {oc12 kV12 dc12 pm12 cd12 ct12 : Value}
    (a12 : PySem.W.nsIn K mainGlobals "_law_spoiled" = some (some (.ref f12))) (l12 : K.lookup f12 = some ⟨oc12, od12, .func (PySem.W.fnOf "_law_spoiled" "_law_spoiled" (defArgs s__law_spoiled) (defBody s__law_spoiled) (defScope s__law_spoiled) .none kV12 dc12 pm12 an12 cd12 ct12), sl12⟩) (c12 : PySem.W.codeIn K cd12 "_law_spoiled" = true) (k12 : PySem.W.keepIn K (.ref f12) = true)
    {f13 : Addr} {od13 an13 : Option Addr} {sl13 : Array (Option Value)} {oc13 kV13 dc13 pm13 cd13 ct13 : Value}
    (a13 : PySem.W.nsIn K mainGlobals "_law_caught" = some (some (.ref f13))) (l13 : K.lookup f13 = some ⟨oc13, od13, .func (PySem.W.fnOf "_law_caught" "_law_caught" (defArgs s__law_caught) (defBody s__law_caught) (defScope s__law_caught) .none kV13 dc13 pm13 an13 cd13 ct13), sl13⟩) (c13 : PySem.W.codeIn K cd13 "_law_caught" = true) (k13 : PySem.W.keepIn K (.ref f13) = true)
    {f14 : Addr} {od14 an14 : Option Addr} {sl14 : Array (Option Value)} {oc14 kV14 dc14 pm14 cd14 ct14 : Value}
    (a14 : PySem.W.nsIn K mainGlobals "law" = some (some (.ref f14))) (l14 : K.lookup f14 = some ⟨oc14, od14, .func (PySem.W.fnOf "law" "law" (defArgs s_law) (defBody s_law) (defScope s_law) .none kV14 dc14 pm14 an14 cd14 ct14), sl14⟩) (c14 : PySem.W.codeIn K cd14 "law" = true) (k14 : PySem.W.keepIn K (.ref f14) = true)
    (z_list : PySem.W.nsIn K mainGlobals "list" = some none)
    (z_range : PySem.W.nsIn K mainGlobals "range" = some none)
    (z_len : PySem.W.nsIn K mainGlobals "len" = some none)
    (z_isinstance : PySem.W.nsIn K mainGlobals "isinstance" = some none)
    (z_int : PySem.W.nsIn K mainGlobals "int" = some none)
    (z_bool : PySem.W.nsIn K mainGlobals "bool" = some none)
    (z_tuple : PySem.W.nsIn K mainGlobals "tuple" = some none)
    (z_min : PySem.W.nsIn K mainGlobals "min" = some none)
    (z_max : PySem.W.nsIn K mainGlobals "max" = some none)
    (z_sum : PySem.W.nsIn K mainGlobals "sum" = some none)
    (z_enumerate : PySem.W.nsIn K mainGlobals "enumerate" = some none)
    (z_ValueError : PySem.W.nsIn K mainGlobals "ValueError" = some none)
    {c_HideError : Addr} (ac_HideError : PySem.W.nsIn K mainGlobals "HideError" = some (some (.ref c_HideError)))
    {c_NoWeb : Addr} (ac_NoWeb : PySem.W.nsIn K mainGlobals "NoWeb" = some (some (.ref c_NoWeb)))
    {c_NoPlan : Addr} (ac_NoPlan : PySem.W.nsIn K mainGlobals "NoPlan" = some (some (.ref c_NoPlan)))
    {c_NoText : Addr} (ac_NoText : PySem.W.nsIn K mainGlobals "NoText" = some (some (.ref c_NoText)))
    {c_NoKind : Addr} (ac_NoKind : PySem.W.nsIn K mainGlobals "NoKind" = some (some (.ref c_NoKind)))
    {c_TooGreat : Addr} (ac_TooGreat : PySem.W.nsIn K mainGlobals "TooGreat" = some (some (.ref c_TooGreat)))
    {c_NoTree : Addr} (ac_NoTree : PySem.W.nsIn K mainGlobals "NoTree" = some (some (.ref c_NoTree)))
    {c_NoWeights : Addr} (ac_NoWeights : PySem.W.nsIn K mainGlobals "NoWeights" = some (some (.ref c_NoWeights)))
    {c_NoTurns : Addr} (ac_NoTurns : PySem.W.nsIn K mainGlobals "NoTurns" = some (some (.ref c_NoTurns)))
    {c_NoNumber : Addr} (ac_NoNumber : PySem.W.nsIn K mainGlobals "NoNumber" = some (some (.ref c_NoNumber)))
    {c_NoBoxes : Addr} (ac_NoBoxes : PySem.W.nsIn K mainGlobals "NoBoxes" = some (some (.ref c_NoBoxes)))
    {c_NoBudget : Addr} (ac_NoBudget : PySem.W.nsIn K mainGlobals "NoBudget" = some (some (.ref c_NoBudget)))
    {c_NoName : Addr} (ac_NoName : PySem.W.nsIn K mainGlobals "NoName" = some (some (.ref c_NoName)))
    {c_NoOrder : Addr} (ac_NoOrder : PySem.W.nsIn K mainGlobals "NoOrder" = some (some (.ref c_NoOrder)))
    {c_NoPlay : Addr} (ac_NoPlay : PySem.W.nsIn K mainGlobals "NoPlay" = some (some (.ref c_NoPlay)))
    {c_NoRoad : Addr} (ac_NoRoad : PySem.W.nsIn K mainGlobals "NoRoad" = some (some (.ref c_NoRoad)))
    {c_NoRow : Addr} (ac_NoRow : PySem.W.nsIn K mainGlobals "NoRow" = some (some (.ref c_NoRow)))
    {c_NoTable : Addr} (ac_NoTable : PySem.W.nsIn K mainGlobals "NoTable" = some (some (.ref c_NoTable)))
    {c_NoPaper : Addr} (ac_NoPaper : PySem.W.nsIn K mainGlobals "NoPaper" = some (some (.ref c_NoPaper)))
    {k_MOST_PLACES : Tok} (ak_MOST_PLACES : PySem.W.nsIn K mainGlobals "MOST_PLACES" = some (some (.int 60 k_MOST_PLACES)))
    {k_MOST_ROADS : Tok} (ak_MOST_ROADS : PySem.W.nsIn K mainGlobals "MOST_ROADS" = some (some (.int 120 k_MOST_ROADS)))
    {k_MOST_LENGTH : Tok} (ak_MOST_LENGTH : PySem.W.nsIn K mainGlobals "MOST_LENGTH" = some (some (.int 1000000 k_MOST_LENGTH)))
    (xc_HideError : PySem.W.excIn K c_HideError veMro "ValueError.__new__" = true)
    (vsg : PySem.W.specialIn K (.ref c_HideError) "__getattribute__" = some (some (.builtin "type.__getattribute__")))
    (vrd : PySem.W.readsIn K c_HideError (.type "type") = true)
    (vfc : PySem.W.findCls K (.ref c_HideError) (.type "type") "__init__" = some (.val (.builtin "ValueError.__init__")))
    {i_NoWeb : Addr} (vin_NoWeb : PySem.W.findIn K (.ref c_NoWeb) "__init__" = some (some (.ref i_NoWeb)))
    {voc_NoWeb vkV_NoWeb vdc_NoWeb vpm_NoWeb vcd_NoWeb vct_NoWeb : Value} {vod_NoWeb van_NoWeb : Option Addr} {vsl_NoWeb : Array (Option Value)} (vl_NoWeb : K.lookup i_NoWeb = some ⟨voc_NoWeb, vod_NoWeb, .func (PySem.W.fnOf "__init__" "NoWeb.__init__" (defArgs si_NoWeb) (defBody si_NoWeb) (defScope si_NoWeb) .none vkV_NoWeb vdc_NoWeb vpm_NoWeb van_NoWeb vcd_NoWeb vct_NoWeb), vsl_NoWeb⟩)
    (vc_NoWeb : PySem.W.codeIn K vcd_NoWeb "NoWeb.__init__" = true)
    (vk_NoWeb : PySem.W.keepIn K (.ref i_NoWeb) = true)
    {vnm_NoWeb vq_NoWeb : Str} {vN_NoWeb : Addr} {vbs_NoWeb vbm_NoWeb : List Value} {vsn_NoWeb : List Str} {vsub_NoWeb : List Value} {vab_NoWeb : Bool} {vcol_NoWeb : Option Bool} {vdd_NoWeb : Option Addr} {v0_NoWeb v1_NoWeb v2_NoWeb v3_NoWeb v5_NoWeb : Option Value} (vlk_NoWeb : K.lookup c_NoWeb = some (excClassObj vnm_NoWeb vq_NoWeb c_NoWeb vN_NoWeb vbs_NoWeb vbm_NoWeb true vsn_NoWeb vsub_NoWeb vab_NoWeb vcol_NoWeb vdd_NoWeb v0_NoWeb v1_NoWeb v2_NoWeb v3_NoWeb v5_NoWeb "ValueError.__new__"))
    (vtl_NoWeb : PySem.W.tailIn K veMro vbm_NoWeb = true)
    (vfn_NoWeb : PySem.W.isFn K (.ref i_NoWeb) = true)
    (vkp_NoWeb : PySem.W.keepIn K (.ref c_NoWeb) = true)
    (vmo_NoWeb : PySem.W.mroIn K c_NoWeb (.type "object") = some true)
    (vsa_NoWeb : PySem.W.findIn K (.ref c_NoWeb) "__setattr__" = some (some (.builtin "object.__setattr__")))
    (vga_NoWeb : PySem.W.findIn K (.ref c_NoWeb) "__getattribute__" = some (some (.builtin "BaseException.__getattribute__")))
    (vgn_NoWeb : PySem.W.findIn K (.ref c_NoWeb) "__getattr__" = some none)
    (vcl_NoWeb : PySem.W.findIn K (.ref c_NoWeb) "__class__" = some (some (.builtin "object.__class__")))
    (vmb_NoWeb : PySem.W.mroIn K c_NoWeb (.type "BaseException") = some true)
    (vhd_NoWeb : PySem.W.hasDictIn K c_NoWeb = true)
    (vna_NoWeb : PySem.W.findIn K (.ref c_NoWeb) "road" = some none)
    (i_k_NoWeb : PySem.W.kitOne K (.ref c_NoWeb) (.ref c_NoWeb) = some true)
    (i_k_NoPlan : PySem.W.kitOne K (.ref c_NoWeb) (.ref c_NoPlan) = some false)
    (i_k_NoText : PySem.W.kitOne K (.ref c_NoWeb) (.ref c_NoText) = some false)
    (i_k_NoKind : PySem.W.kitOne K (.ref c_NoWeb) (.ref c_NoKind) = some false)
    (i_k_TooGreat : PySem.W.kitOne K (.ref c_NoWeb) (.ref c_TooGreat) = some false)
    (i_k_NoTree : PySem.W.kitOne K (.ref c_NoWeb) (.ref c_NoTree) = some false)
    (i_k_NoWeights : PySem.W.kitOne K (.ref c_NoWeb) (.ref c_NoWeights) = some false)
    (i_k_NoTurns : PySem.W.kitOne K (.ref c_NoWeb) (.ref c_NoTurns) = some false)
    (i_k_NoNumber : PySem.W.kitOne K (.ref c_NoWeb) (.ref c_NoNumber) = some false)
    (i_k_NoBoxes : PySem.W.kitOne K (.ref c_NoWeb) (.ref c_NoBoxes) = some false)
    (i_k_NoBudget : PySem.W.kitOne K (.ref c_NoWeb) (.ref c_NoBudget) = some false)
    (i_k_NoName : PySem.W.kitOne K (.ref c_NoWeb) (.ref c_NoName) = some false)
    (i_k_NoOrder : PySem.W.kitOne K (.ref c_NoWeb) (.ref c_NoOrder) = some false)
    (i_k_NoPlay : PySem.W.kitOne K (.ref c_NoWeb) (.ref c_NoPlay) = some false)
    (i_k_NoRoad : PySem.W.kitOne K (.ref c_NoWeb) (.ref c_NoRoad) = some false)
    (i_k_NoRow : PySem.W.kitOne K (.ref c_NoWeb) (.ref c_NoRow) = some false)
    (i_k_NoTable : PySem.W.kitOne K (.ref c_NoWeb) (.ref c_NoTable) = some false)
    (i_k_NoPaper : PySem.W.kitOne K (.ref c_NoWeb) (.ref c_NoPaper) = some false)
    (i_k_ValueError : PySem.W.kitOne K (.ref c_NoWeb) (.type "ValueError") = some true)
    (i_sub : PySem.W.subIn K (.ref c_NoWeb) (.ref c_HideError) = some true)
    (e_ga : PySem.W.findIn K (.ref c_NoWeb) "__getattribute__" = some (some (.builtin "BaseException.__getattribute__")))
    (e_gn : PySem.W.findIn K (.ref c_NoWeb) "__getattr__" = some none)
    (e_cl : PySem.W.findIn K (.ref c_NoWeb) "__class__" = some (some (.builtin "object.__class__")))
    (e_mb : PySem.W.mroIn K c_NoWeb (.type "BaseException") = some true)
    (e_mo : PySem.W.mroIn K c_NoWeb (.type "object") = some true)
    : Txt K mg ⟨f0, PySem.W.fnOf "is_whole" "is_whole" (defArgs s_is_whole) (defBody s_is_whole) (defScope s_is_whole) .none kV0 dc0 pm0 an0 cd0 ct0, f1, PySem.W.fnOf "is_within" "is_within" (defArgs s_is_within) (defBody s_is_within) (defScope s_is_within) .none kV1 dc1 pm1 an1 cd1 ct1, f2, PySem.W.fnOf "is_road" "is_road" (defArgs s_is_road) (defBody s_is_road) (defScope s_is_road) .none kV2 dc2 pm2 an2 cd2 ct2, f3, PySem.W.fnOf "places_come_to" "places_come_to" (defArgs s_places_come_to) (defBody s_places_come_to) (defScope s_places_come_to) .none kV3 dc3 pm3 an3 cd3 ct3, f4, PySem.W.fnOf "look_web" "look_web" (defArgs s_look_web) (defBody s_look_web) (defScope s_look_web) .none kV4 dc4 pm4 an4 cd4 ct4, f5, PySem.W.fnOf "_law_mixed" "_law_mixed" (defArgs s__law_mixed) (defBody s__law_mixed) (defScope s__law_mixed) .none kV5 dc5 pm5 an5 cd5 ct5, f6, PySem.W.fnOf "_law_whole" "_law_whole" (defArgs s__law_whole) (defBody s__law_whole) (defScope s__law_whole) .none kV6 dc6 pm6 an6 cd6 ct6, f7, PySem.W.fnOf "_law_class" "_law_class" (defArgs s__law_class) (defBody s__law_class) (defScope s__law_class) .none kV7 dc7 pm7 an7 cd7 ct7, f8, PySem.W.fnOf "_law_length" "_law_length" (defArgs s__law_length) (defBody s__law_length) (defScope s__law_length) .none kV8 dc8 pm8 an8 cd8 ct8, f9, PySem.W.fnOf "_law_web" "_law_web" (defArgs s__law_web) (defBody s__law_web) (defScope s__law_web) .none kV9 dc9 pm9 an9 cd9 ct9, f10, PySem.W.fnOf "_law_any_web" "_law_any_web" (defArgs s__law_any_web) (defBody s__law_any_web) (defScope s__law_any_web) .none kV10 dc10 pm10 an10 cd10 ct10, f11, PySem.W.fnOf "_law_due" "_law_due" (defArgs s__law_due) (defBody s__law_due) (defScope s__law_due) .none kV11 dc11 pm11 an11 cd11 ct11, f12, PySem.W.fnOf "_law_spoiled" "_law_spoiled" (defArgs s__law_spoiled) (defBody s__law_spoiled) (defScope s__law_spoiled) .none kV12 dc12 pm12 an12 cd12 ct12, f13, PySem.W.fnOf "_law_caught" "_law_caught" (defArgs s__law_caught) (defBody s__law_caught) (defScope s__law_caught) .none kV13 dc13 pm13 an13 cd13 ct13, f14, PySem.W.fnOf "law" "law" (defArgs s_law) (defBody s_law) (defScope s_law) .none kV14 dc14 pm14 an14 cd14 ct14, c_HideError, c_NoWeb, c_NoPlan, c_NoText, c_NoKind, c_TooGreat, c_NoTree, c_NoWeights, c_NoTurns, c_NoNumber, c_NoBoxes, c_NoBudget, c_NoName, c_NoOrder, c_NoPlay, c_NoRoad, c_NoRow, c_NoTable, c_NoPaper, i_NoWeb, PySem.W.fnOf "__init__" "NoWeb.__init__" (defArgs si_NoWeb) (defBody si_NoWeb) (defScope si_NoWeb) .none vkV_NoWeb vdc_NoWeb vpm_NoWeb van_NoWeb vcd_NoWeb vct_NoWeb, k_MOST_PLACES, k_MOST_ROADS, k_MOST_LENGTH⟩ := by
  have F0 := fun_mk (st := s_is_whole) l0 c0 k0
  have b0 := F0.binds (ps := ["thing"]) fun _ _ _ _ _ _ us hl => by obtain ⟨_, rfl⟩ := lst1 hl; rfl
  have F1 := fun_mk (st := s_is_within) l1 c1 k1
  have b1 := F1.binds (ps := ["thing", "least", "most"]) fun _ _ _ _ _ _ us hl => by obtain ⟨_, _, _, rfl⟩ := lst3 hl; rfl
  have F2 := fun_mk (st := s_is_road) l2 c2 k2
  have b2 := F2.binds (ps := ["thing", "many"]) fun _ _ _ _ _ _ us hl => by obtain ⟨_, _, rfl⟩ := lst2 hl; rfl
  have F3 := fun_mk (st := s_places_come_to) l3 c3 k3
  have b3 := F3.binds (ps := ["roads"]) fun _ _ _ _ _ _ us hl => by obtain ⟨_, rfl⟩ := lst1 hl; rfl
  have F4 := fun_mk (st := s_look_web) l4 c4 k4
  have b4 := F4.binds (ps := ["web"]) fun _ _ _ _ _ _ us hl => by obtain ⟨_, rfl⟩ := lst1 hl; rfl
  have F5 := fun_mk (st := s__law_mixed) l5 c5 k5
  have b5 := F5.binds (ps := ["_law_script", "_law_k"]) fun _ _ _ _ _ _ us hl => by obtain ⟨_, _, rfl⟩ := lst2 hl; rfl
  have F6 := fun_mk (st := s__law_whole) l6 c6 k6
  have b6 := F6.binds (ps := ["_law_told"]) fun _ _ _ _ _ _ us hl => by obtain ⟨_, rfl⟩ := lst1 hl; rfl
  have F7 := fun_mk (st := s__law_class) l7 c7 k7
  have b7 := F7.binds (ps := ["_law_caught_here"]) fun _ _ _ _ _ _ us hl => by obtain ⟨_, rfl⟩ := lst1 hl; rfl
  have F8 := fun_mk (st := s__law_length) l8 c8 k8
  have b8 := F8.binds (ps := ["_law_number"]) fun _ _ _ _ _ _ us hl => by obtain ⟨_, rfl⟩ := lst1 hl; rfl
  have F9 := fun_mk (st := s__law_web) l9 c9 k9
  have b9 := F9.binds (ps := ["_law_script", "_law_start", "_law_most", "_law_extra"]) fun _ _ _ _ _ _ us hl => by obtain ⟨_, _, _, _, rfl⟩ := lst4 hl; rfl
  have F10 := fun_mk (st := s__law_any_web) l10 c10 k10
  have b10 := F10.binds (ps := ["_law_script", "_law_start"]) fun _ _ _ _ _ _ us hl => by obtain ⟨_, _, rfl⟩ := lst2 hl; rfl
  have F11 := fun_mk (st := s__law_due) l11 c11 k11
  have b11 := F11.binds (ps := ["_law_web_here"]) fun _ _ _ _ _ _ us hl => by obtain ⟨_, rfl⟩ := lst1 hl; rfl
  have F12 := fun_mk (st := s__law_spoiled) l12 c12 k12
  have b12 := F12.binds (ps := ["_law_web_here", "_law_script", "_law_k"]) fun _ _ _ _ _ _ us hl => by obtain ⟨_, _, _, rfl⟩ := lst3 hl; rfl
  have F13 := fun_mk (st := s__law_caught) l13 c13 k13
  have b13 := F13.binds (ps := ["_law_web_here"]) fun _ _ _ _ _ _ us hl => by obtain ⟨_, rfl⟩ := lst1 hl; rfl
  have F14 := fun_mk (st := s_law) l14 c14 k14
  have b14 := F14.binds (ps := ["_law_script"]) fun _ _ _ _ _ _ us hl => by obtain ⟨_, rfl⟩ := lst1 hl; rfl
  have VF_NoWeb := fun_mk (st := si_NoWeb) vl_NoWeb vc_NoWeb vk_NoWeb
  have vb_NoWeb := VF_NoWeb.binds (ps := ["self", "road"]) fun _ _ _ _ _ _ us hl => by obtain ⟨_, _, rfl⟩ := vlst2 hl; rfl
  exact ⟨F0, b0, PySem.W.mg_of X G a0, F1, b1, PySem.W.mg_of X G a1, F2, b2, PySem.W.mg_of X G a2, F3, b3, PySem.W.mg_of X G a3, F4, b4, PySem.W.mg_of X G a4, F5, b5, PySem.W.mg_of X G a5, F6, b6, PySem.W.mg_of X G a6, F7, b7, PySem.W.mg_of X G a7, F8, b8, PySem.W.mg_of X G a8, F9, b9, PySem.W.mg_of X G a9, F10, b10, PySem.W.mg_of X G a10, F11, b11, PySem.W.mg_of X G a11, F12, b12, PySem.W.mg_of X G a12, F13, b13, PySem.W.mg_of X G a13, F14, b14, PySem.W.mg_of X G a14, PySem.W.mg_none_of X G z_list, PySem.W.mg_none_of X G z_range, PySem.W.mg_none_of X G z_len, PySem.W.mg_none_of X G z_isinstance, PySem.W.mg_none_of X G z_int, PySem.W.mg_none_of X G z_bool, PySem.W.mg_none_of X G z_tuple, PySem.W.mg_none_of X G z_min, PySem.W.mg_none_of X G z_max, PySem.W.mg_none_of X G z_sum, PySem.W.mg_none_of X G z_enumerate, PySem.W.mg_none_of X G z_ValueError, PySem.W.mg_of X G ac_HideError, PySem.W.mg_of X G ac_NoWeb, PySem.W.mg_of X G ac_NoPlan, PySem.W.mg_of X G ac_NoText, PySem.W.mg_of X G ac_NoKind, PySem.W.mg_of X G ac_TooGreat, PySem.W.mg_of X G ac_NoTree, PySem.W.mg_of X G ac_NoWeights, PySem.W.mg_of X G ac_NoTurns, PySem.W.mg_of X G ac_NoNumber, PySem.W.mg_of X G ac_NoBoxes, PySem.W.mg_of X G ac_NoBudget, PySem.W.mg_of X G ac_NoName, PySem.W.mg_of X G ac_NoOrder, PySem.W.mg_of X G ac_NoPlay, PySem.W.mg_of X G ac_NoRoad, PySem.W.mg_of X G ac_NoRow, PySem.W.mg_of X G ac_NoTable, PySem.W.mg_of X G ac_NoPaper, PySem.W.mg_of X G ak_MOST_PLACES, PySem.W.mg_of X G ak_MOST_ROADS, PySem.W.mg_of X G ak_MOST_LENGTH, xc_HideError, ⟨vsg, vrd, vfc⟩, VF_NoWeb, vb_NoWeb, ⟨⟨_, _, _, _, _, _, _, _, _, _, _, _, _, _, _, vlk_NoWeb, vtl_NoWeb⟩, vin_NoWeb, vfn_NoWeb, vkp_NoWeb, vmo_NoWeb, vsa_NoWeb⟩, ⟨⟨vga_NoWeb, vgn_NoWeb, vcl_NoWeb, vmb_NoWeb, vmo_NoWeb⟩, vhd_NoWeb, vna_NoWeb⟩, ⟨i_k_NoWeb, i_k_NoPlan, i_k_NoText, i_k_NoKind, i_k_TooGreat, i_k_NoTree, i_k_NoWeights, i_k_NoTurns, i_k_NoNumber, i_k_NoBoxes, i_k_NoBudget, i_k_NoName, i_k_NoOrder, i_k_NoPlay, i_k_NoRoad, i_k_NoRow, i_k_NoTable, i_k_NoPaper, i_k_ValueError, i_sub, excCls_ofI ⟨e_ga, e_gn, e_cl, e_mb, e_mo⟩ (ExI.mk ⟨_, _, _, _, _, _, _, _, _, _, _, _, _, _, _, vlk_NoWeb, vtl_NoWeb⟩ vin_NoWeb vfn_NoWeb vkp_NoWeb vmo_NoWeb vsa_NoWeb)⟩⟩
theorem all_mk {K : PySem.W.Frag} {w : World} {mg : Str → Option Value} {h : Heap} {fa : Addr} {P : Program} (X : K.In h) (G : h.Ns mainGlobals mg) (hfa : mg "law" = some (.ref fa)) {a : Ad} (T : Txt K mg a) :
    ∃ fd : FuncData, (∀ (s : Shared) (u : Value), BindsTo s fd ⟨[u], []⟩ [("_law_script", u)]) ∧ ∀ base : Heap, K.In base → base.Ns mainGlobals mg → FnOk P w K mg base CX0 7 fa fd ["_law_script"] (spLaw K) := by
  have e := hfa.symm.trans T.m_law
  cases e
  refine ⟨a.d_law, fun s v => ?_, fun base _ _ => ok_law T⟩
  obtain ⟨oc, od, kV, doc, pm, an, cdv, ct, osl, e, lk, hcd⟩ := T.F_law.ex
  rw [e]
  exact .of_eq rfl
theorem walk {l : PySem.W.OpenLaw} {q : Program} {loose : List Str} {XP : (Str → Option Value) → Heap → Prop} {YP : World → Heap → Prop} {d : DefRec} {K : Params → PySem.W.Frag} (hn : l.most = some 63) (hdf : d.params.defaults = [])
    (hY : ∀ (w : World) (h : Heap), YP w h → (K w.params).In h)
    (F : ∀ (w : World) (mg : Str → Option Value) (fa : Addr) (h : Heap), (K w.params).In h → h.Ns mainGlobals mg → mg d.name = some (.ref fa) →
      ∃ fd : FuncData, (∀ (s : Shared) (u : Value), BindsTo s fd ⟨[u], []⟩ [("_law_script", u)]) ∧ ∀ base : Heap, (K w.params).In base → base.Ns mainGlobals mg → FnOk l.prog w (K w.params) mg base CX0 7 fa fd ["_law_script"] (spLaw (K w.params))) :
    PySem.W.WalkO q loose XP YP l.row.toRowW d [] (fun f vs => PySem.call f vs) :=
  L2.walk_of (n := 63) (k := 7) (x := "_law_script") (CX := fun _ => CX0) (sp := fun w => spLaw (K w.params)) hn (by decide) hdf ⟨rfl, by decide, by decide⟩ hY F (fun _ _ a ns hl _ hS => ⟨a, ns, rfl, hS, hl, fun _ => rfl⟩) fun _ _ _ _ _ z => z
end My
open PySem PySem.W in
theorem My.walk_at {K : Params → Frag} {w : World} {h : Heap} {l : OpenLaw} {q : Program} {loose : List Str} {XP : (Str → Option Value) → Heap → Prop} {d : DefRec} {C : Prop} (_ : (K w.params).In h)
    (use : WalkO q loose XP (fun w h => (K w.params).In h) l.row.toRowW d [] (fun f vs => PySem.call f vs) → C) (W : WalkO q loose XP (fun w h => (K w.params).In h) l.row.toRowW d [] (fun f vs => PySem.call f vs)) : C := use W
noncomputable section
namespace Hd
open PySem
structure Q (α : Type) where
  a : α
  b : α
  c : α
  d : α
  e : α
  f : α
  g : α
  h : α
structure X where
  s : Q (Q (Q Str))
  t : Q (Q (Q String))
  r : Q (Q (Q Obj))
  p : Program
  P : Params
def sp (p : Program) (n : Nat) : Stmt := (p.main.body.drop n).headD (.Pass ⟨0, 0, 0, 0⟩)
def st (x : X) (n : Nat) : Stmt := sp x.p n
def cb : Stmt → List Stmt
  | .ClassDef _ _ _ b .. => b
  | _ => []
def sm (x : X) (n k : Nat) : Stmt := ((cb (st x n)).drop k).headD (.Pass ⟨0, 0, 0, 0⟩)
def fn (s : Stmt) (q : Str) (g : Addr) (c : List (Str × Addr)) (d k o m : Value) (a : Option Addr) (z t : Value) (b : Addr) : FuncData := match s with
  | .FunctionDef n p y _ _ _ u .. => ⟨n, q, p, .stmts y, u, g, c, d, k, o, m, a, z, t, b⟩
  | _ => default
abbrev z := W.BT.nil
def N (o : Obj) (l r : W.BT) : W.BT := .node o l r
def L (o : Obj) : W.BT := .node o .nil .nil
def e (x : X) (s : Str) (n : Nat) (v : Value) : DictEntry := ⟨PyData.keyHash x.P s, .str s n, v⟩
noncomputable def i0 (x : X) : DictEntry := e x x.s.a.a.d 165 (.str x.s.a.a.e 187)
noncomputable def i1 (x : X) : DictEntry := e x x.s.a.a.f 166 .none
noncomputable def i2 (x : X) : DictEntry := e x x.s.a.a.g 167 .none
noncomputable def i3 (x : X) : DictEntry := e x x.s.a.a.h 168 (.builtin x.t.a.a.e)
noncomputable def i4 (x : X) : DictEntry := e x x.s.a.b.a 169 .none
noncomputable def i5 (x : X) : DictEntry := e x x.s.a.b.b 170 (.ref 6)
noncomputable def i6 (x : X) : DictEntry := e x x.s.a.b.c 171 (.ref 4)
noncomputable def i7 (x : X) : DictEntry := e x x.s.a.b.d 173 (.str x.s.a.a.b 172)
noncomputable def i8 (x : X) : DictEntry := e x x.s.a.b.e 174 .none
noncomputable def i9 (x : X) : DictEntry := e x x.s.a.b.f 206 (.ref 24)
noncomputable def i10 (x : X) : DictEntry := e x x.s.a.b.g 196 (.str x.s.a.a.e 187)
noncomputable def i11 (x : X) : DictEntry := e x x.s.a.b.h 198 (.str x.s.a.b.f 197)
noncomputable def i12 (x : X) : DictEntry := e x x.s.a.c.a 200 (.int 2 199)
noncomputable def i13 (x : X) : DictEntry := e x x.s.a.c.b 201 (.ref 22)
noncomputable def i14 (x : X) : DictEntry := e x x.s.a.c.c 203 (.ref 25)
noncomputable def i15 (x : X) : DictEntry := e x x.s.a.a.f 204 .none
noncomputable def i16 (x : X) : DictEntry := e x x.s.a.c.d 222 (.ref 37)
noncomputable def i17 (x : X) : DictEntry := e x x.s.a.b.g 214 (.str x.s.a.a.e 187)
noncomputable def i18 (x : X) : DictEntry := e x x.s.a.b.h 216 (.str x.s.a.c.d 215)
noncomputable def i19 (x : X) : DictEntry := e x x.s.a.c.a 218 (.int 4 217)
noncomputable def i20 (x : X) : DictEntry := e x x.s.a.c.b 219 (.ref 35)
noncomputable def i21 (x : X) : DictEntry := e x x.s.a.a.f 220 .none
noncomputable def i22 (x : X) : DictEntry := e x x.s.a.c.e 238 (.ref 49)
noncomputable def i23 (x : X) : DictEntry := e x x.s.a.b.g 230 (.str x.s.a.a.e 187)
noncomputable def i24 (x : X) : DictEntry := e x x.s.a.b.h 232 (.str x.s.a.c.e 231)
noncomputable def i25 (x : X) : DictEntry := e x x.s.a.c.a 234 (.int 6 233)
noncomputable def i26 (x : X) : DictEntry := e x x.s.a.c.b 235 (.ref 47)
noncomputable def i27 (x : X) : DictEntry := e x x.s.a.a.f 236 .none
noncomputable def i28 (x : X) : DictEntry := e x x.s.a.c.f 254 (.ref 61)
noncomputable def i29 (x : X) : DictEntry := e x x.s.a.b.g 246 (.str x.s.a.a.e 187)
noncomputable def i30 (x : X) : DictEntry := e x x.s.a.b.h 248 (.str x.s.a.c.f 247)
noncomputable def i31 (x : X) : DictEntry := e x x.s.a.c.a 250 (.int 8 249)
noncomputable def i32 (x : X) : DictEntry := e x x.s.a.c.b 251 (.ref 59)
noncomputable def i33 (x : X) : DictEntry := e x x.s.a.a.f 252 .none
noncomputable def i34 (x : X) : DictEntry := e x x.s.a.c.g 270 (.ref 73)
noncomputable def i35 (x : X) : DictEntry := e x x.s.a.b.g 262 (.str x.s.a.a.e 187)
noncomputable def i36 (x : X) : DictEntry := e x x.s.a.b.h 264 (.str x.s.a.c.g 263)
noncomputable def i37 (x : X) : DictEntry := e x x.s.a.c.a 266 (.int 10 265)
noncomputable def i38 (x : X) : DictEntry := e x x.s.a.c.b 267 (.ref 71)
noncomputable def i39 (x : X) : DictEntry := e x x.s.a.a.f 268 .none
noncomputable def i40 (x : X) : DictEntry := e x x.s.a.c.h 286 (.ref 85)
noncomputable def i41 (x : X) : DictEntry := e x x.s.a.b.g 278 (.str x.s.a.a.e 187)
noncomputable def i42 (x : X) : DictEntry := e x x.s.a.b.h 280 (.str x.s.a.c.h 279)
noncomputable def i43 (x : X) : DictEntry := e x x.s.a.c.a 282 (.int 12 281)
noncomputable def i44 (x : X) : DictEntry := e x x.s.a.c.b 283 (.ref 83)
noncomputable def i45 (x : X) : DictEntry := e x x.s.a.a.f 284 .none
noncomputable def i46 (x : X) : DictEntry := e x x.s.a.d.a 302 (.ref 97)
noncomputable def i47 (x : X) : DictEntry := e x x.s.a.b.g 294 (.str x.s.a.a.e 187)
noncomputable def i48 (x : X) : DictEntry := e x x.s.a.b.h 296 (.str x.s.a.d.a 295)
noncomputable def i49 (x : X) : DictEntry := e x x.s.a.c.a 298 (.int 14 297)
noncomputable def i50 (x : X) : DictEntry := e x x.s.a.c.b 299 (.ref 95)
noncomputable def i51 (x : X) : DictEntry := e x x.s.a.a.f 300 .none
noncomputable def i52 (x : X) : DictEntry := e x x.s.a.d.b 318 (.ref 109)
noncomputable def i53 (x : X) : DictEntry := e x x.s.a.b.g 310 (.str x.s.a.a.e 187)
noncomputable def i54 (x : X) : DictEntry := e x x.s.a.b.h 312 (.str x.s.a.d.b 311)
noncomputable def i55 (x : X) : DictEntry := e x x.s.a.c.a 314 (.int 16 313)
noncomputable def i56 (x : X) : DictEntry := e x x.s.a.c.b 315 (.ref 107)
noncomputable def i57 (x : X) : DictEntry := e x x.s.a.a.f 316 .none
noncomputable def i58 (x : X) : DictEntry := e x x.s.a.d.c 334 (.ref 121)
noncomputable def i59 (x : X) : DictEntry := e x x.s.a.b.g 326 (.str x.s.a.a.e 187)
noncomputable def i60 (x : X) : DictEntry := e x x.s.a.b.h 328 (.str x.s.a.d.c 327)
noncomputable def i61 (x : X) : DictEntry := e x x.s.a.c.a 330 (.int 18 329)
noncomputable def i62 (x : X) : DictEntry := e x x.s.a.c.b 331 (.ref 119)
noncomputable def i63 (x : X) : DictEntry := e x x.s.a.a.f 332 .none
noncomputable def i64 (x : X) : DictEntry := e x x.s.a.d.d 350 (.ref 133)
noncomputable def i65 (x : X) : DictEntry := e x x.s.a.b.g 342 (.str x.s.a.a.e 187)
noncomputable def i66 (x : X) : DictEntry := e x x.s.a.b.h 344 (.str x.s.a.d.d 343)
noncomputable def i67 (x : X) : DictEntry := e x x.s.a.c.a 346 (.int 20 345)
noncomputable def i68 (x : X) : DictEntry := e x x.s.a.c.b 347 (.ref 131)
noncomputable def i69 (x : X) : DictEntry := e x x.s.a.a.f 348 .none
noncomputable def i70 (x : X) : DictEntry := e x x.s.a.d.e 366 (.ref 145)
noncomputable def i71 (x : X) : DictEntry := e x x.s.a.b.g 358 (.str x.s.a.a.e 187)
noncomputable def i72 (x : X) : DictEntry := e x x.s.a.b.h 360 (.str x.s.a.d.e 359)
noncomputable def i73 (x : X) : DictEntry := e x x.s.a.c.a 362 (.int 22 361)
noncomputable def i74 (x : X) : DictEntry := e x x.s.a.c.b 363 (.ref 143)
noncomputable def i75 (x : X) : DictEntry := e x x.s.a.a.f 364 .none
noncomputable def i76 (x : X) : DictEntry := e x x.s.a.d.f 382 (.ref 157)
noncomputable def i77 (x : X) : DictEntry := e x x.s.a.b.g 374 (.str x.s.a.a.e 187)
noncomputable def i78 (x : X) : DictEntry := e x x.s.a.b.h 376 (.str x.s.a.d.f 375)
noncomputable def i79 (x : X) : DictEntry := e x x.s.a.c.a 378 (.int 24 377)
noncomputable def i80 (x : X) : DictEntry := e x x.s.a.c.b 379 (.ref 155)
noncomputable def i81 (x : X) : DictEntry := e x x.s.a.a.f 380 .none
noncomputable def i82 (x : X) : DictEntry := e x x.s.a.d.g 398 (.ref 169)
noncomputable def i83 (x : X) : DictEntry := e x x.s.a.b.g 390 (.str x.s.a.a.e 187)
noncomputable def i84 (x : X) : DictEntry := e x x.s.a.b.h 392 (.str x.s.a.d.g 391)
noncomputable def i85 (x : X) : DictEntry := e x x.s.a.c.a 394 (.int 26 393)
noncomputable def i86 (x : X) : DictEntry := e x x.s.a.c.b 395 (.ref 167)
noncomputable def i87 (x : X) : DictEntry := e x x.s.a.a.f 396 .none
noncomputable def i88 (x : X) : DictEntry := e x x.s.a.d.h 414 (.ref 181)
noncomputable def i89 (x : X) : DictEntry := e x x.s.a.b.g 406 (.str x.s.a.a.e 187)
noncomputable def i90 (x : X) : DictEntry := e x x.s.a.b.h 408 (.str x.s.a.d.h 407)
noncomputable def i91 (x : X) : DictEntry := e x x.s.a.c.a 410 (.int 28 409)
noncomputable def i92 (x : X) : DictEntry := e x x.s.a.c.b 411 (.ref 179)
noncomputable def i93 (x : X) : DictEntry := e x x.s.a.a.f 412 .none
noncomputable def i94 (x : X) : DictEntry := e x x.s.a.e.a 430 (.ref 193)
noncomputable def i95 (x : X) : DictEntry := e x x.s.a.b.g 422 (.str x.s.a.a.e 187)
noncomputable def i96 (x : X) : DictEntry := e x x.s.a.b.h 424 (.str x.s.a.e.a 423)
noncomputable def i97 (x : X) : DictEntry := e x x.s.a.c.a 426 (.int 30 425)
noncomputable def i98 (x : X) : DictEntry := e x x.s.a.c.b 427 (.ref 191)
noncomputable def i99 (x : X) : DictEntry := e x x.s.a.a.f 428 .none
noncomputable def i100 (x : X) : DictEntry := e x x.s.a.e.b 455 (.ref 212)
noncomputable def i101 (x : X) : DictEntry := e x x.s.a.b.g 438 (.str x.s.a.a.e 187)
noncomputable def i102 (x : X) : DictEntry := e x x.s.a.b.h 440 (.str x.s.a.e.b 439)
noncomputable def i103 (x : X) : DictEntry := e x x.s.a.c.a 442 (.int 32 441)
noncomputable def i104 (x : X) : DictEntry := e x x.s.a.e.c 450 (.ref 209)
noncomputable def i105 (x : X) : DictEntry := e x x.s.a.c.b 452 (.ref 210)
noncomputable def i106 (x : X) : DictEntry := e x x.s.a.a.f 453 .none
noncomputable def i107 (x : X) : DictEntry := e x x.s.a.e.g 480 (.ref 231)
noncomputable def i108 (x : X) : DictEntry := e x x.s.a.b.g 463 (.str x.s.a.a.e 187)
noncomputable def i109 (x : X) : DictEntry := e x x.s.a.b.h 465 (.str x.s.a.e.g 464)
noncomputable def i110 (x : X) : DictEntry := e x x.s.a.c.a 467 (.int 37 466)
noncomputable def i111 (x : X) : DictEntry := e x x.s.a.e.c 475 (.ref 228)
noncomputable def i112 (x : X) : DictEntry := e x x.s.a.c.b 477 (.ref 229)
noncomputable def i113 (x : X) : DictEntry := e x x.s.a.a.f 478 .none
noncomputable def i114 (x : X) : DictEntry := e x x.s.a.f.b 505 (.ref 250)
noncomputable def i115 (x : X) : DictEntry := e x x.s.a.b.g 488 (.str x.s.a.a.e 187)
noncomputable def i116 (x : X) : DictEntry := e x x.s.a.b.h 490 (.str x.s.a.f.b 489)
noncomputable def i117 (x : X) : DictEntry := e x x.s.a.c.a 492 (.int 42 491)
noncomputable def i118 (x : X) : DictEntry := e x x.s.a.e.c 500 (.ref 247)
noncomputable def i119 (x : X) : DictEntry := e x x.s.a.c.b 502 (.ref 248)
noncomputable def i120 (x : X) : DictEntry := e x x.s.a.a.f 503 .none
noncomputable def i121 (x : X) : DictEntry := e x x.s.a.a.d 165 (.str x.s.a.f.e 549)
noncomputable def i122 (x : X) : DictEntry := e x x.s.a.f.f 530 (.ref 269)
noncomputable def i123 (x : X) : DictEntry := e x x.s.a.f.g 539 (.ref 278)
noncomputable def i124 (x : X) : DictEntry := e x x.s.a.f.h 548 (.ref 285)
noncomputable def i125 (x : X) : DictEntry := e x x.s.a.g.a 552 (.int 60 551)
noncomputable def i126 (x : X) : DictEntry := e x x.s.a.g.b 554 (.int 120 553)
noncomputable def i127 (x : X) : DictEntry := e x x.s.a.g.c 556 (.int 1000000 555)
noncomputable def i128 (x : X) : DictEntry := e x x.s.a.g.d 567 (.ref 292)
noncomputable def i129 (x : X) : DictEntry := e x x.s.a.b.g 513 (.str x.s.a.a.e 187)
noncomputable def i130 (x : X) : DictEntry := e x x.s.a.b.h 515 (.str x.s.a.f.f 514)
noncomputable def i131 (x : X) : DictEntry := e x x.s.a.c.a 517 (.int 47 516)
noncomputable def i132 (x : X) : DictEntry := e x x.s.a.e.c 525 (.ref 266)
noncomputable def i133 (x : X) : DictEntry := e x x.s.a.c.b 527 (.ref 267)
noncomputable def i134 (x : X) : DictEntry := e x x.s.a.a.f 528 .none
noncomputable def i135 (x : X) : DictEntry := e x x.s.a.a.d 165 (.str x.s.a.h.g 591)
noncomputable def i136 (x : X) : DictEntry := e x x.s.a.h.h 579 (.ref 299)
noncomputable def i137 (x : X) : DictEntry := e x x.s.b.a.a 590 (.ref 306)
noncomputable def i138 (x : X) : DictEntry := e x x.s.b.a.b 604 (.ref 313)
noncomputable def i139 (x : X) : DictEntry := e x x.s.b.a.c 611 (.ref 320)
noncomputable def i140 (x : X) : DictEntry := e x x.s.b.a.d 619 (.ref 327)
noncomputable def i141 (x : X) : DictEntry := e x x.s.b.a.e 627 (.ref 334)
noncomputable def i142 (x : X) : DictEntry := e x x.s.b.a.f 649 (.ref 341)
noncomputable def i143 (x : X) : DictEntry := e x x.s.b.a.g 657 (.ref 348)
noncomputable def i144 (x : X) : DictEntry := e x x.s.b.a.h 672 (.ref 355)
noncomputable def i145 (x : X) : DictEntry := e x x.s.b.b.a 678 (.ref 360)
noncomputable def i146 (x : X) : DictEntry := e x x.s.b.b.b 687 (.ref 367)
noncomputable def i147 (x : X) : DictEntry := e x x.s.b.f.b 699 (.ref 374)
def b625 (x : X) : Obj := ⟨(.type x.t.a.a.a), none, (.seq #[] 0), #[]⟩
def b626 (x : X) : Obj := ⟨.none, none, (.fields #[]), #[]⟩
def b627 (x : X) : Obj := ⟨(.type x.t.a.a.b), none, (.fields #[(.str x.s.a.a.a 182), (.str x.s.a.a.a 183), (.str x.s.a.a.b 184), (.int 1 0), (.int 0 0), (.int 0 0), (.int 0 0), (.int 0 0), (.ref 11), (.bool false), (.int 181 0), (.ref 12), .none, .none, .none, .none, (.int 185 0), (.int 1 0), (.str x.s.a.a.b 186)]), #[]⟩
def b628 (x : X) : Obj := ⟨(.type x.t.a.a.c), none, .plain, #[(some (.ref 13)), (some (.ref 3)), (some (.ref 3)), none, (some (.str x.s.a.a.c 164)), none, (some (.ref 0))]⟩
def b631 (x : X) : Obj := ⟨(.type x.t.a.a.d), none, (.dict #[(i0 x), (i1 x), (i2 x), (i3 x), (i4 x), (i5 x), (i6 x), (i7 x), (i8 x), (i9 x)] 10), #[]⟩
def b632 (x : X) : Obj := ⟨.none, none, (.fields #[(.int 2 0), (.int 0 0), (.ref 20)]), #[]⟩
def b633 (x : X) : Obj := ⟨(.type x.t.a.a.a), none, (.seq #[(.type x.t.a.a.f)] 0), #[]⟩
def b634 (x : X) : Obj := ⟨(.type x.t.a.a.g), none, (.fields #[(.builtin x.t.a.a.h), (.type x.t.a.b.a)]), #[]⟩
def b635 (x : X) : Obj := ⟨(.type x.t.a.a.d), none, (.dict #[(i10 x), (i11 x), (i12 x), (i13 x)] 4), #[]⟩
def b636 (x : X) : Obj := ⟨(.type x.t.a.a.a), none, (.seq #[] 0), #[]⟩
def b637 (x : X) : Obj := ⟨.none, none, (.fields #[]), #[]⟩
def b638 (x : X) : Obj := ⟨(.type x.t.a.a.b), none, (.fields #[(.str x.s.a.b.f 191), (.str x.s.a.b.f 192), (.str x.s.a.a.b 193), (.int 2 0), (.int 0 0), (.int 0 0), (.int 0 0), (.int 0 0), (.ref 18), (.bool false), (.int 181 0), (.ref 19), .none, .none, .none, .none, (.int 194 0), (.int 2 0), (.str x.s.a.a.b 195)]), #[]⟩
def b639 (x : X) : Obj := ⟨(.type x.t.a.a.c), none, .plain, #[(some (.ref 20)), (some (.ref 3)), (some (.ref 17)), none, (some (.str x.s.a.a.e 187)), none, (some (.ref 0))]⟩
def b640 (x : X) : Obj := ⟨(.type x.t.a.a.a), none, (.seq #[] 0), #[]⟩
def b641 (x : X) : Obj := ⟨(.type x.t.a.a.d), none, (.dict #[(i10 x), (i12 x), (i13 x), (i14 x), (i15 x)] 3), #[]⟩
def b642 (x : X) : Obj := ⟨(.type x.t.a.b.a), none, (.cls ⟨x.s.a.b.f, [(.type x.t.a.a.f)], [(.ref 24), (.type x.t.a.a.f), (.type x.t.a.b.b), (.type x.t.a.b.c), (.type x.t.a.b.d)], 23, x.s.a.b.f, true, [], [], false, none, false⟩), #[(some (.ref 15)), none, (some (.str x.s.a.b.f 189)), (some (.str x.s.a.b.f 197)), (some (.builtin x.t.a.b.e)), (some (.bool true))]⟩
def b643 (x : X) : Obj := ⟨(.type x.t.a.b.f), none, (.fields #[(.str x.s.a.c.c 202), (.ref 24), (.builtin x.t.a.b.g), .none]), #[]⟩
def b644 (x : X) : Obj := ⟨(.type x.t.a.b.h), none, (.fields #[(.ref 24), (.ref 24), (.ref 24)]), #[]⟩
def b645 (x : X) : Obj := ⟨(.type x.t.a.a.g), none, (.fields #[(.builtin x.t.a.c.a), (.ref 24)]), #[]⟩
def b646 (x : X) : Obj := ⟨(.type x.t.a.a.d), none, (.dict #[(i0 x), (i1 x), (i2 x), (i3 x), (i4 x), (i5 x), (i6 x), (i7 x), (i8 x), (i9 x), (i16 x)] 11), #[]⟩
def b647 (x : X) : Obj := ⟨.none, none, (.fields #[(.int 2 0), (.int 0 0), (.ref 20), (.int 4 0), (.int 0 0), (.ref 33)]), #[]⟩
def b648 (x : X) : Obj := ⟨(.type x.t.a.b.a), none, (.cls ⟨x.s.a.b.f, [(.type x.t.a.a.f)], [(.ref 24), (.type x.t.a.a.f), (.type x.t.a.b.b), (.type x.t.a.b.c), (.type x.t.a.b.d)], 23, x.s.a.b.f, true, [], [(.ref 37)], false, none, false⟩), #[(some (.ref 15)), none, (some (.str x.s.a.b.f 189)), (some (.str x.s.a.b.f 197)), (some (.builtin x.t.a.b.e)), (some (.bool true))]⟩
def b649 (x : X) : Obj := ⟨(.type x.t.a.a.a), none, (.seq #[(.ref 24)] 0), #[]⟩
def b650 (x : X) : Obj := ⟨(.type x.t.a.a.g), none, (.fields #[(.builtin x.t.a.a.h), (.type x.t.a.b.a)]), #[]⟩
def b651 (x : X) : Obj := ⟨(.type x.t.a.a.d), none, (.dict #[(i17 x), (i18 x), (i19 x), (i20 x)] 4), #[]⟩
def b652 (x : X) : Obj := ⟨(.type x.t.a.a.a), none, (.seq #[] 0), #[]⟩
def b653 (x : X) : Obj := ⟨.none, none, (.fields #[]), #[]⟩
def b654 (x : X) : Obj := ⟨(.type x.t.a.a.b), none, (.fields #[(.str x.s.a.c.d 209), (.str x.s.a.c.d 210), (.str x.s.a.a.b 211), (.int 4 0), (.int 0 0), (.int 0 0), (.int 0 0), (.int 0 0), (.ref 31), (.bool false), (.int 181 0), (.ref 32), .none, .none, .none, .none, (.int 212 0), (.int 4 0), (.str x.s.a.a.b 213)]), #[]⟩
def b655 (x : X) : Obj := ⟨(.type x.t.a.a.c), none, .plain, #[(some (.ref 33)), (some (.ref 3)), (some (.ref 30)), none, (some (.str x.s.a.a.e 187)), none, (some (.ref 0))]⟩
def b656 (x : X) : Obj := ⟨(.type x.t.a.a.a), none, (.seq #[] 0), #[]⟩
def b657 (x : X) : Obj := ⟨(.type x.t.a.a.d), none, (.dict #[(i17 x), (i19 x), (i20 x), (i21 x)] 2), #[]⟩
def b658 (x : X) : Obj := ⟨(.type x.t.a.b.a), none, (.cls ⟨x.s.a.c.d, [(.ref 24)], [(.ref 37), (.ref 24), (.type x.t.a.a.f), (.type x.t.a.b.b), (.type x.t.a.b.c), (.type x.t.a.b.d)], 36, x.s.a.c.d, true, [], [], false, none, false⟩), #[(some (.ref 28)), none, (some (.str x.s.a.c.d 207)), (some (.str x.s.a.c.d 215)), (some (.builtin x.t.a.b.e)), (some (.bool true))]⟩
def b659 (x : X) : Obj := ⟨(.type x.t.a.b.h), none, (.fields #[(.ref 37), (.ref 37), (.ref 37)]), #[]⟩
def b660 (x : X) : Obj := ⟨(.type x.t.a.a.g), none, (.fields #[(.builtin x.t.a.c.a), (.ref 37)]), #[]⟩
def b661 (x : X) : Obj := ⟨(.type x.t.a.a.d), none, (.dict #[(i0 x), (i1 x), (i2 x), (i3 x), (i4 x), (i5 x), (i6 x), (i7 x), (i8 x), (i9 x), (i16 x), (i22 x)] 12), #[]⟩
def b662 (x : X) : Obj := ⟨.none, none, (.fields #[(.int 2 0), (.int 0 0), (.ref 20), (.int 4 0), (.int 0 0), (.ref 33), (.int 6 0), (.int 0 0), (.ref 45)]), #[]⟩
def b663 (x : X) : Obj := ⟨(.type x.t.a.b.a), none, (.cls ⟨x.s.a.b.f, [(.type x.t.a.a.f)], [(.ref 24), (.type x.t.a.a.f), (.type x.t.a.b.b), (.type x.t.a.b.c), (.type x.t.a.b.d)], 23, x.s.a.b.f, true, [], [(.ref 37), (.ref 49)], false, none, false⟩), #[(some (.ref 15)), none, (some (.str x.s.a.b.f 189)), (some (.str x.s.a.b.f 197)), (some (.builtin x.t.a.b.e)), (some (.bool true))]⟩
def b664 (x : X) : Obj := ⟨(.type x.t.a.a.a), none, (.seq #[(.ref 24)] 0), #[]⟩
def b665 (x : X) : Obj := ⟨(.type x.t.a.a.g), none, (.fields #[(.builtin x.t.a.a.h), (.type x.t.a.b.a)]), #[]⟩
def b666 (x : X) : Obj := ⟨(.type x.t.a.a.d), none, (.dict #[(i23 x), (i24 x), (i25 x), (i26 x)] 4), #[]⟩
def b667 (x : X) : Obj := ⟨(.type x.t.a.a.a), none, (.seq #[] 0), #[]⟩
def b668 (x : X) : Obj := ⟨.none, none, (.fields #[]), #[]⟩
def b669 (x : X) : Obj := ⟨(.type x.t.a.a.b), none, (.fields #[(.str x.s.a.c.e 225), (.str x.s.a.c.e 226), (.str x.s.a.a.b 227), (.int 6 0), (.int 0 0), (.int 0 0), (.int 0 0), (.int 0 0), (.ref 43), (.bool false), (.int 181 0), (.ref 44), .none, .none, .none, .none, (.int 228 0), (.int 6 0), (.str x.s.a.a.b 229)]), #[]⟩
def b670 (x : X) : Obj := ⟨(.type x.t.a.a.c), none, .plain, #[(some (.ref 45)), (some (.ref 3)), (some (.ref 42)), none, (some (.str x.s.a.a.e 187)), none, (some (.ref 0))]⟩
def b671 (x : X) : Obj := ⟨(.type x.t.a.a.a), none, (.seq #[] 0), #[]⟩
def b672 (x : X) : Obj := ⟨(.type x.t.a.a.d), none, (.dict #[(i23 x), (i25 x), (i26 x), (i27 x)] 2), #[]⟩
def b673 (x : X) : Obj := ⟨(.type x.t.a.b.a), none, (.cls ⟨x.s.a.c.e, [(.ref 24)], [(.ref 49), (.ref 24), (.type x.t.a.a.f), (.type x.t.a.b.b), (.type x.t.a.b.c), (.type x.t.a.b.d)], 48, x.s.a.c.e, true, [], [], false, none, false⟩), #[(some (.ref 40)), none, (some (.str x.s.a.c.e 223)), (some (.str x.s.a.c.e 231)), (some (.builtin x.t.a.b.e)), (some (.bool true))]⟩
def b674 (x : X) : Obj := ⟨(.type x.t.a.b.h), none, (.fields #[(.ref 49), (.ref 49), (.ref 49)]), #[]⟩
def b675 (x : X) : Obj := ⟨(.type x.t.a.a.g), none, (.fields #[(.builtin x.t.a.c.a), (.ref 49)]), #[]⟩
def b676 (x : X) : Obj := ⟨(.type x.t.a.a.d), none, (.dict #[(i0 x), (i1 x), (i2 x), (i3 x), (i4 x), (i5 x), (i6 x), (i7 x), (i8 x), (i9 x), (i16 x), (i22 x), (i28 x)] 13), #[]⟩
def b677 (x : X) : Obj := ⟨.none, none, (.fields #[(.int 2 0), (.int 0 0), (.ref 20), (.int 4 0), (.int 0 0), (.ref 33), (.int 6 0), (.int 0 0), (.ref 45), (.int 8 0), (.int 0 0), (.ref 57)]), #[]⟩
def b678 (x : X) : Obj := ⟨(.type x.t.a.b.a), none, (.cls ⟨x.s.a.b.f, [(.type x.t.a.a.f)], [(.ref 24), (.type x.t.a.a.f), (.type x.t.a.b.b), (.type x.t.a.b.c), (.type x.t.a.b.d)], 23, x.s.a.b.f, true, [], [(.ref 37), (.ref 49), (.ref 61)], false, none, false⟩), #[(some (.ref 15)), none, (some (.str x.s.a.b.f 189)), (some (.str x.s.a.b.f 197)), (some (.builtin x.t.a.b.e)), (some (.bool true))]⟩
def b679 (x : X) : Obj := ⟨(.type x.t.a.a.a), none, (.seq #[(.ref 24)] 0), #[]⟩
def b680 (x : X) : Obj := ⟨(.type x.t.a.a.g), none, (.fields #[(.builtin x.t.a.a.h), (.type x.t.a.b.a)]), #[]⟩
def b681 (x : X) : Obj := ⟨(.type x.t.a.a.d), none, (.dict #[(i29 x), (i30 x), (i31 x), (i32 x)] 4), #[]⟩
def b682 (x : X) : Obj := ⟨(.type x.t.a.a.a), none, (.seq #[] 0), #[]⟩
def b683 (x : X) : Obj := ⟨.none, none, (.fields #[]), #[]⟩
def b684 (x : X) : Obj := ⟨(.type x.t.a.a.b), none, (.fields #[(.str x.s.a.c.f 241), (.str x.s.a.c.f 242), (.str x.s.a.a.b 243), (.int 8 0), (.int 0 0), (.int 0 0), (.int 0 0), (.int 0 0), (.ref 55), (.bool false), (.int 181 0), (.ref 56), .none, .none, .none, .none, (.int 244 0), (.int 8 0), (.str x.s.a.a.b 245)]), #[]⟩
def b685 (x : X) : Obj := ⟨(.type x.t.a.a.c), none, .plain, #[(some (.ref 57)), (some (.ref 3)), (some (.ref 54)), none, (some (.str x.s.a.a.e 187)), none, (some (.ref 0))]⟩
def b686 (x : X) : Obj := ⟨(.type x.t.a.a.a), none, (.seq #[] 0), #[]⟩
def b687 (x : X) : Obj := ⟨(.type x.t.a.a.d), none, (.dict #[(i29 x), (i31 x), (i32 x), (i33 x)] 2), #[]⟩
def b688 (x : X) : Obj := ⟨(.type x.t.a.b.a), none, (.cls ⟨x.s.a.c.f, [(.ref 24)], [(.ref 61), (.ref 24), (.type x.t.a.a.f), (.type x.t.a.b.b), (.type x.t.a.b.c), (.type x.t.a.b.d)], 60, x.s.a.c.f, true, [], [], false, none, false⟩), #[(some (.ref 52)), none, (some (.str x.s.a.c.f 239)), (some (.str x.s.a.c.f 247)), (some (.builtin x.t.a.b.e)), (some (.bool true))]⟩
def b689 (x : X) : Obj := ⟨(.type x.t.a.b.h), none, (.fields #[(.ref 61), (.ref 61), (.ref 61)]), #[]⟩
def b690 (x : X) : Obj := ⟨(.type x.t.a.a.g), none, (.fields #[(.builtin x.t.a.c.a), (.ref 61)]), #[]⟩
def b691 (x : X) : Obj := ⟨(.type x.t.a.a.d), none, (.dict #[(i0 x), (i1 x), (i2 x), (i3 x), (i4 x), (i5 x), (i6 x), (i7 x), (i8 x), (i9 x), (i16 x), (i22 x), (i28 x), (i34 x)] 14), #[]⟩
def b692 (x : X) : Obj := ⟨.none, none, (.fields #[(.int 2 0), (.int 0 0), (.ref 20), (.int 4 0), (.int 0 0), (.ref 33), (.int 6 0), (.int 0 0), (.ref 45), (.int 8 0), (.int 0 0), (.ref 57), (.int 10 0), (.int 0 0), (.ref 69)]), #[]⟩
def b693 (x : X) : Obj := ⟨(.type x.t.a.b.a), none, (.cls ⟨x.s.a.b.f, [(.type x.t.a.a.f)], [(.ref 24), (.type x.t.a.a.f), (.type x.t.a.b.b), (.type x.t.a.b.c), (.type x.t.a.b.d)], 23, x.s.a.b.f, true, [], [(.ref 37), (.ref 49), (.ref 61), (.ref 73)], false, none, false⟩), #[(some (.ref 15)), none, (some (.str x.s.a.b.f 189)), (some (.str x.s.a.b.f 197)), (some (.builtin x.t.a.b.e)), (some (.bool true))]⟩
def b694 (x : X) : Obj := ⟨(.type x.t.a.a.a), none, (.seq #[(.ref 24)] 0), #[]⟩
def b695 (x : X) : Obj := ⟨(.type x.t.a.a.g), none, (.fields #[(.builtin x.t.a.a.h), (.type x.t.a.b.a)]), #[]⟩
def b696 (x : X) : Obj := ⟨(.type x.t.a.a.d), none, (.dict #[(i35 x), (i36 x), (i37 x), (i38 x)] 4), #[]⟩
def b697 (x : X) : Obj := ⟨(.type x.t.a.a.a), none, (.seq #[] 0), #[]⟩
def b698 (x : X) : Obj := ⟨.none, none, (.fields #[]), #[]⟩
def b699 (x : X) : Obj := ⟨(.type x.t.a.a.b), none, (.fields #[(.str x.s.a.c.g 257), (.str x.s.a.c.g 258), (.str x.s.a.a.b 259), (.int 10 0), (.int 0 0), (.int 0 0), (.int 0 0), (.int 0 0), (.ref 67), (.bool false), (.int 181 0), (.ref 68), .none, .none, .none, .none, (.int 260 0), (.int 10 0), (.str x.s.a.a.b 261)]), #[]⟩
def b700 (x : X) : Obj := ⟨(.type x.t.a.a.c), none, .plain, #[(some (.ref 69)), (some (.ref 3)), (some (.ref 66)), none, (some (.str x.s.a.a.e 187)), none, (some (.ref 0))]⟩
def b701 (x : X) : Obj := ⟨(.type x.t.a.a.a), none, (.seq #[] 0), #[]⟩
def b702 (x : X) : Obj := ⟨(.type x.t.a.a.d), none, (.dict #[(i35 x), (i37 x), (i38 x), (i39 x)] 2), #[]⟩
def b703 (x : X) : Obj := ⟨(.type x.t.a.b.a), none, (.cls ⟨x.s.a.c.g, [(.ref 24)], [(.ref 73), (.ref 24), (.type x.t.a.a.f), (.type x.t.a.b.b), (.type x.t.a.b.c), (.type x.t.a.b.d)], 72, x.s.a.c.g, true, [], [], false, none, false⟩), #[(some (.ref 64)), none, (some (.str x.s.a.c.g 255)), (some (.str x.s.a.c.g 263)), (some (.builtin x.t.a.b.e)), (some (.bool true))]⟩
def b704 (x : X) : Obj := ⟨(.type x.t.a.b.h), none, (.fields #[(.ref 73), (.ref 73), (.ref 73)]), #[]⟩
def b705 (x : X) : Obj := ⟨(.type x.t.a.a.g), none, (.fields #[(.builtin x.t.a.c.a), (.ref 73)]), #[]⟩
def b706 (x : X) : Obj := ⟨(.type x.t.a.a.d), none, (.dict #[(i0 x), (i1 x), (i2 x), (i3 x), (i4 x), (i5 x), (i6 x), (i7 x), (i8 x), (i9 x), (i16 x), (i22 x), (i28 x), (i34 x), (i40 x)] 15), #[]⟩
def b707 (x : X) : Obj := ⟨.none, none, (.fields #[(.int 2 0), (.int 0 0), (.ref 20), (.int 4 0), (.int 0 0), (.ref 33), (.int 6 0), (.int 0 0), (.ref 45), (.int 8 0), (.int 0 0), (.ref 57), (.int 10 0), (.int 0 0), (.ref 69), (.int 12 0), (.int 0 0), (.ref 81)]), #[]⟩
def b708 (x : X) : Obj := ⟨(.type x.t.a.b.a), none, (.cls ⟨x.s.a.b.f, [(.type x.t.a.a.f)], [(.ref 24), (.type x.t.a.a.f), (.type x.t.a.b.b), (.type x.t.a.b.c), (.type x.t.a.b.d)], 23, x.s.a.b.f, true, [], [(.ref 37), (.ref 49), (.ref 61), (.ref 73), (.ref 85)], false, none, false⟩), #[(some (.ref 15)), none, (some (.str x.s.a.b.f 189)), (some (.str x.s.a.b.f 197)), (some (.builtin x.t.a.b.e)), (some (.bool true))]⟩
def b709 (x : X) : Obj := ⟨(.type x.t.a.a.a), none, (.seq #[(.ref 24)] 0), #[]⟩
def b710 (x : X) : Obj := ⟨(.type x.t.a.a.g), none, (.fields #[(.builtin x.t.a.a.h), (.type x.t.a.b.a)]), #[]⟩
def b711 (x : X) : Obj := ⟨(.type x.t.a.a.d), none, (.dict #[(i41 x), (i42 x), (i43 x), (i44 x)] 4), #[]⟩
def b712 (x : X) : Obj := ⟨(.type x.t.a.a.a), none, (.seq #[] 0), #[]⟩
def b713 (x : X) : Obj := ⟨.none, none, (.fields #[]), #[]⟩
def b714 (x : X) : Obj := ⟨(.type x.t.a.a.b), none, (.fields #[(.str x.s.a.c.h 273), (.str x.s.a.c.h 274), (.str x.s.a.a.b 275), (.int 12 0), (.int 0 0), (.int 0 0), (.int 0 0), (.int 0 0), (.ref 79), (.bool false), (.int 181 0), (.ref 80), .none, .none, .none, .none, (.int 276 0), (.int 12 0), (.str x.s.a.a.b 277)]), #[]⟩
def b715 (x : X) : Obj := ⟨(.type x.t.a.a.c), none, .plain, #[(some (.ref 81)), (some (.ref 3)), (some (.ref 78)), none, (some (.str x.s.a.a.e 187)), none, (some (.ref 0))]⟩
def b716 (x : X) : Obj := ⟨(.type x.t.a.a.a), none, (.seq #[] 0), #[]⟩
def b717 (x : X) : Obj := ⟨(.type x.t.a.a.d), none, (.dict #[(i41 x), (i43 x), (i44 x), (i45 x)] 2), #[]⟩
def b718 (x : X) : Obj := ⟨(.type x.t.a.b.a), none, (.cls ⟨x.s.a.c.h, [(.ref 24)], [(.ref 85), (.ref 24), (.type x.t.a.a.f), (.type x.t.a.b.b), (.type x.t.a.b.c), (.type x.t.a.b.d)], 84, x.s.a.c.h, true, [], [], false, none, false⟩), #[(some (.ref 76)), none, (some (.str x.s.a.c.h 271)), (some (.str x.s.a.c.h 279)), (some (.builtin x.t.a.b.e)), (some (.bool true))]⟩
def b719 (x : X) : Obj := ⟨(.type x.t.a.b.h), none, (.fields #[(.ref 85), (.ref 85), (.ref 85)]), #[]⟩
def b720 (x : X) : Obj := ⟨(.type x.t.a.a.g), none, (.fields #[(.builtin x.t.a.c.a), (.ref 85)]), #[]⟩
def b721 (x : X) : Obj := ⟨(.type x.t.a.a.d), none, (.dict #[(i0 x), (i1 x), (i2 x), (i3 x), (i4 x), (i5 x), (i6 x), (i7 x), (i8 x), (i9 x), (i16 x), (i22 x), (i28 x), (i34 x), (i40 x), (i46 x)] 16), #[]⟩
def b722 (x : X) : Obj := ⟨.none, none, (.fields #[(.int 2 0), (.int 0 0), (.ref 20), (.int 4 0), (.int 0 0), (.ref 33), (.int 6 0), (.int 0 0), (.ref 45), (.int 8 0), (.int 0 0), (.ref 57), (.int 10 0), (.int 0 0), (.ref 69), (.int 12 0), (.int 0 0), (.ref 81), (.int 14 0), (.int 0 0), (.ref 93)]), #[]⟩
def b723 (x : X) : Obj := ⟨(.type x.t.a.b.a), none, (.cls ⟨x.s.a.b.f, [(.type x.t.a.a.f)], [(.ref 24), (.type x.t.a.a.f), (.type x.t.a.b.b), (.type x.t.a.b.c), (.type x.t.a.b.d)], 23, x.s.a.b.f, true, [], [(.ref 37), (.ref 49), (.ref 61), (.ref 73), (.ref 85), (.ref 97)], false, none, false⟩), #[(some (.ref 15)), none, (some (.str x.s.a.b.f 189)), (some (.str x.s.a.b.f 197)), (some (.builtin x.t.a.b.e)), (some (.bool true))]⟩
def b724 (x : X) : Obj := ⟨(.type x.t.a.a.a), none, (.seq #[(.ref 24)] 0), #[]⟩
def b725 (x : X) : Obj := ⟨(.type x.t.a.a.g), none, (.fields #[(.builtin x.t.a.a.h), (.type x.t.a.b.a)]), #[]⟩
def b726 (x : X) : Obj := ⟨(.type x.t.a.a.d), none, (.dict #[(i47 x), (i48 x), (i49 x), (i50 x)] 4), #[]⟩
def b727 (x : X) : Obj := ⟨(.type x.t.a.a.a), none, (.seq #[] 0), #[]⟩
def b728 (x : X) : Obj := ⟨.none, none, (.fields #[]), #[]⟩
def b729 (x : X) : Obj := ⟨(.type x.t.a.a.b), none, (.fields #[(.str x.s.a.d.a 289), (.str x.s.a.d.a 290), (.str x.s.a.a.b 291), (.int 14 0), (.int 0 0), (.int 0 0), (.int 0 0), (.int 0 0), (.ref 91), (.bool false), (.int 181 0), (.ref 92), .none, .none, .none, .none, (.int 292 0), (.int 14 0), (.str x.s.a.a.b 293)]), #[]⟩
def b730 (x : X) : Obj := ⟨(.type x.t.a.a.c), none, .plain, #[(some (.ref 93)), (some (.ref 3)), (some (.ref 90)), none, (some (.str x.s.a.a.e 187)), none, (some (.ref 0))]⟩
def b731 (x : X) : Obj := ⟨(.type x.t.a.a.a), none, (.seq #[] 0), #[]⟩
def b732 (x : X) : Obj := ⟨(.type x.t.a.a.d), none, (.dict #[(i47 x), (i49 x), (i50 x), (i51 x)] 2), #[]⟩
def b733 (x : X) : Obj := ⟨(.type x.t.a.b.a), none, (.cls ⟨x.s.a.d.a, [(.ref 24)], [(.ref 97), (.ref 24), (.type x.t.a.a.f), (.type x.t.a.b.b), (.type x.t.a.b.c), (.type x.t.a.b.d)], 96, x.s.a.d.a, true, [], [], false, none, false⟩), #[(some (.ref 88)), none, (some (.str x.s.a.d.a 287)), (some (.str x.s.a.d.a 295)), (some (.builtin x.t.a.b.e)), (some (.bool true))]⟩
def b734 (x : X) : Obj := ⟨(.type x.t.a.b.h), none, (.fields #[(.ref 97), (.ref 97), (.ref 97)]), #[]⟩
def b735 (x : X) : Obj := ⟨(.type x.t.a.a.g), none, (.fields #[(.builtin x.t.a.c.a), (.ref 97)]), #[]⟩
def b736 (x : X) : Obj := ⟨(.type x.t.a.a.d), none, (.dict #[(i0 x), (i1 x), (i2 x), (i3 x), (i4 x), (i5 x), (i6 x), (i7 x), (i8 x), (i9 x), (i16 x), (i22 x), (i28 x), (i34 x), (i40 x), (i46 x), (i52 x)] 17), #[]⟩
def b737 (x : X) : Obj := ⟨.none, none, (.fields #[(.int 2 0), (.int 0 0), (.ref 20), (.int 4 0), (.int 0 0), (.ref 33), (.int 6 0), (.int 0 0), (.ref 45), (.int 8 0), (.int 0 0), (.ref 57), (.int 10 0), (.int 0 0), (.ref 69), (.int 12 0), (.int 0 0), (.ref 81), (.int 14 0), (.int 0 0), (.ref 93), (.int 16 0), (.int 0 0), (.ref 105)]), #[]⟩
def b738 (x : X) : Obj := ⟨(.type x.t.a.b.a), none, (.cls ⟨x.s.a.b.f, [(.type x.t.a.a.f)], [(.ref 24), (.type x.t.a.a.f), (.type x.t.a.b.b), (.type x.t.a.b.c), (.type x.t.a.b.d)], 23, x.s.a.b.f, true, [], [(.ref 37), (.ref 49), (.ref 61), (.ref 73), (.ref 85), (.ref 97), (.ref 109)], false, none, false⟩), #[(some (.ref 15)), none, (some (.str x.s.a.b.f 189)), (some (.str x.s.a.b.f 197)), (some (.builtin x.t.a.b.e)), (some (.bool true))]⟩
def b739 (x : X) : Obj := ⟨(.type x.t.a.a.a), none, (.seq #[(.ref 24)] 0), #[]⟩
def b740 (x : X) : Obj := ⟨(.type x.t.a.a.g), none, (.fields #[(.builtin x.t.a.a.h), (.type x.t.a.b.a)]), #[]⟩
def b741 (x : X) : Obj := ⟨(.type x.t.a.a.d), none, (.dict #[(i53 x), (i54 x), (i55 x), (i56 x)] 4), #[]⟩
def b742 (x : X) : Obj := ⟨(.type x.t.a.a.a), none, (.seq #[] 0), #[]⟩
def b743 (x : X) : Obj := ⟨.none, none, (.fields #[]), #[]⟩
def b744 (x : X) : Obj := ⟨(.type x.t.a.a.b), none, (.fields #[(.str x.s.a.d.b 305), (.str x.s.a.d.b 306), (.str x.s.a.a.b 307), (.int 16 0), (.int 0 0), (.int 0 0), (.int 0 0), (.int 0 0), (.ref 103), (.bool false), (.int 181 0), (.ref 104), .none, .none, .none, .none, (.int 308 0), (.int 16 0), (.str x.s.a.a.b 309)]), #[]⟩
def b745 (x : X) : Obj := ⟨(.type x.t.a.a.c), none, .plain, #[(some (.ref 105)), (some (.ref 3)), (some (.ref 102)), none, (some (.str x.s.a.a.e 187)), none, (some (.ref 0))]⟩
def b746 (x : X) : Obj := ⟨(.type x.t.a.a.a), none, (.seq #[] 0), #[]⟩
def b747 (x : X) : Obj := ⟨(.type x.t.a.a.d), none, (.dict #[(i53 x), (i55 x), (i56 x), (i57 x)] 2), #[]⟩
def b748 (x : X) : Obj := ⟨(.type x.t.a.b.a), none, (.cls ⟨x.s.a.d.b, [(.ref 24)], [(.ref 109), (.ref 24), (.type x.t.a.a.f), (.type x.t.a.b.b), (.type x.t.a.b.c), (.type x.t.a.b.d)], 108, x.s.a.d.b, true, [], [], false, none, false⟩), #[(some (.ref 100)), none, (some (.str x.s.a.d.b 303)), (some (.str x.s.a.d.b 311)), (some (.builtin x.t.a.b.e)), (some (.bool true))]⟩
def b749 (x : X) : Obj := ⟨(.type x.t.a.b.h), none, (.fields #[(.ref 109), (.ref 109), (.ref 109)]), #[]⟩
def b750 (x : X) : Obj := ⟨(.type x.t.a.a.g), none, (.fields #[(.builtin x.t.a.c.a), (.ref 109)]), #[]⟩
def b751 (x : X) : Obj := ⟨(.type x.t.a.a.d), none, (.dict #[(i0 x), (i1 x), (i2 x), (i3 x), (i4 x), (i5 x), (i6 x), (i7 x), (i8 x), (i9 x), (i16 x), (i22 x), (i28 x), (i34 x), (i40 x), (i46 x), (i52 x), (i58 x)] 18), #[]⟩
def b752 (x : X) : Obj := ⟨.none, none, (.fields #[(.int 2 0), (.int 0 0), (.ref 20), (.int 4 0), (.int 0 0), (.ref 33), (.int 6 0), (.int 0 0), (.ref 45), (.int 8 0), (.int 0 0), (.ref 57), (.int 10 0), (.int 0 0), (.ref 69), (.int 12 0), (.int 0 0), (.ref 81), (.int 14 0), (.int 0 0), (.ref 93), (.int 16 0), (.int 0 0), (.ref 105), (.int 18 0), (.int 0 0), (.ref 117)]), #[]⟩
def b753 (x : X) : Obj := ⟨(.type x.t.a.b.a), none, (.cls ⟨x.s.a.b.f, [(.type x.t.a.a.f)], [(.ref 24), (.type x.t.a.a.f), (.type x.t.a.b.b), (.type x.t.a.b.c), (.type x.t.a.b.d)], 23, x.s.a.b.f, true, [], [(.ref 37), (.ref 49), (.ref 61), (.ref 73), (.ref 85), (.ref 97), (.ref 109), (.ref 121)], false, none, false⟩), #[(some (.ref 15)), none, (some (.str x.s.a.b.f 189)), (some (.str x.s.a.b.f 197)), (some (.builtin x.t.a.b.e)), (some (.bool true))]⟩
def b754 (x : X) : Obj := ⟨(.type x.t.a.a.a), none, (.seq #[(.ref 24)] 0), #[]⟩
def b755 (x : X) : Obj := ⟨(.type x.t.a.a.g), none, (.fields #[(.builtin x.t.a.a.h), (.type x.t.a.b.a)]), #[]⟩
def b756 (x : X) : Obj := ⟨(.type x.t.a.a.d), none, (.dict #[(i59 x), (i60 x), (i61 x), (i62 x)] 4), #[]⟩
def b757 (x : X) : Obj := ⟨(.type x.t.a.a.a), none, (.seq #[] 0), #[]⟩
def b758 (x : X) : Obj := ⟨.none, none, (.fields #[]), #[]⟩
def b759 (x : X) : Obj := ⟨(.type x.t.a.a.b), none, (.fields #[(.str x.s.a.d.c 321), (.str x.s.a.d.c 322), (.str x.s.a.a.b 323), (.int 18 0), (.int 0 0), (.int 0 0), (.int 0 0), (.int 0 0), (.ref 115), (.bool false), (.int 181 0), (.ref 116), .none, .none, .none, .none, (.int 324 0), (.int 18 0), (.str x.s.a.a.b 325)]), #[]⟩
def b760 (x : X) : Obj := ⟨(.type x.t.a.a.c), none, .plain, #[(some (.ref 117)), (some (.ref 3)), (some (.ref 114)), none, (some (.str x.s.a.a.e 187)), none, (some (.ref 0))]⟩
def b761 (x : X) : Obj := ⟨(.type x.t.a.a.a), none, (.seq #[] 0), #[]⟩
def b762 (x : X) : Obj := ⟨(.type x.t.a.a.d), none, (.dict #[(i59 x), (i61 x), (i62 x), (i63 x)] 2), #[]⟩
def b763 (x : X) : Obj := ⟨(.type x.t.a.b.a), none, (.cls ⟨x.s.a.d.c, [(.ref 24)], [(.ref 121), (.ref 24), (.type x.t.a.a.f), (.type x.t.a.b.b), (.type x.t.a.b.c), (.type x.t.a.b.d)], 120, x.s.a.d.c, true, [], [], false, none, false⟩), #[(some (.ref 112)), none, (some (.str x.s.a.d.c 319)), (some (.str x.s.a.d.c 327)), (some (.builtin x.t.a.b.e)), (some (.bool true))]⟩
def b764 (x : X) : Obj := ⟨(.type x.t.a.b.h), none, (.fields #[(.ref 121), (.ref 121), (.ref 121)]), #[]⟩
def b765 (x : X) : Obj := ⟨(.type x.t.a.a.g), none, (.fields #[(.builtin x.t.a.c.a), (.ref 121)]), #[]⟩
def b766 (x : X) : Obj := ⟨(.type x.t.a.a.d), none, (.dict #[(i0 x), (i1 x), (i2 x), (i3 x), (i4 x), (i5 x), (i6 x), (i7 x), (i8 x), (i9 x), (i16 x), (i22 x), (i28 x), (i34 x), (i40 x), (i46 x), (i52 x), (i58 x), (i64 x)] 19), #[]⟩
def b767 (x : X) : Obj := ⟨.none, none, (.fields #[(.int 2 0), (.int 0 0), (.ref 20), (.int 4 0), (.int 0 0), (.ref 33), (.int 6 0), (.int 0 0), (.ref 45), (.int 8 0), (.int 0 0), (.ref 57), (.int 10 0), (.int 0 0), (.ref 69), (.int 12 0), (.int 0 0), (.ref 81), (.int 14 0), (.int 0 0), (.ref 93), (.int 16 0), (.int 0 0), (.ref 105), (.int 18 0), (.int 0 0), (.ref 117), (.int 20 0), (.int 0 0), (.ref 129)]), #[]⟩
def b768 (x : X) : Obj := ⟨(.type x.t.a.b.a), none, (.cls ⟨x.s.a.b.f, [(.type x.t.a.a.f)], [(.ref 24), (.type x.t.a.a.f), (.type x.t.a.b.b), (.type x.t.a.b.c), (.type x.t.a.b.d)], 23, x.s.a.b.f, true, [], [(.ref 37), (.ref 49), (.ref 61), (.ref 73), (.ref 85), (.ref 97), (.ref 109), (.ref 121), (.ref 133)], false, none, false⟩), #[(some (.ref 15)), none, (some (.str x.s.a.b.f 189)), (some (.str x.s.a.b.f 197)), (some (.builtin x.t.a.b.e)), (some (.bool true))]⟩
def b769 (x : X) : Obj := ⟨(.type x.t.a.a.a), none, (.seq #[(.ref 24)] 0), #[]⟩
def b770 (x : X) : Obj := ⟨(.type x.t.a.a.g), none, (.fields #[(.builtin x.t.a.a.h), (.type x.t.a.b.a)]), #[]⟩
def b771 (x : X) : Obj := ⟨(.type x.t.a.a.d), none, (.dict #[(i65 x), (i66 x), (i67 x), (i68 x)] 4), #[]⟩
def b772 (x : X) : Obj := ⟨(.type x.t.a.a.a), none, (.seq #[] 0), #[]⟩
def b773 (x : X) : Obj := ⟨.none, none, (.fields #[]), #[]⟩
def b774 (x : X) : Obj := ⟨(.type x.t.a.a.b), none, (.fields #[(.str x.s.a.d.d 337), (.str x.s.a.d.d 338), (.str x.s.a.a.b 339), (.int 20 0), (.int 0 0), (.int 0 0), (.int 0 0), (.int 0 0), (.ref 127), (.bool false), (.int 181 0), (.ref 128), .none, .none, .none, .none, (.int 340 0), (.int 20 0), (.str x.s.a.a.b 341)]), #[]⟩
def b775 (x : X) : Obj := ⟨(.type x.t.a.a.c), none, .plain, #[(some (.ref 129)), (some (.ref 3)), (some (.ref 126)), none, (some (.str x.s.a.a.e 187)), none, (some (.ref 0))]⟩
def b776 (x : X) : Obj := ⟨(.type x.t.a.a.a), none, (.seq #[] 0), #[]⟩
def b777 (x : X) : Obj := ⟨(.type x.t.a.a.d), none, (.dict #[(i65 x), (i67 x), (i68 x), (i69 x)] 2), #[]⟩
def b778 (x : X) : Obj := ⟨(.type x.t.a.b.a), none, (.cls ⟨x.s.a.d.d, [(.ref 24)], [(.ref 133), (.ref 24), (.type x.t.a.a.f), (.type x.t.a.b.b), (.type x.t.a.b.c), (.type x.t.a.b.d)], 132, x.s.a.d.d, true, [], [], false, none, false⟩), #[(some (.ref 124)), none, (some (.str x.s.a.d.d 335)), (some (.str x.s.a.d.d 343)), (some (.builtin x.t.a.b.e)), (some (.bool true))]⟩
def b779 (x : X) : Obj := ⟨(.type x.t.a.b.h), none, (.fields #[(.ref 133), (.ref 133), (.ref 133)]), #[]⟩
def b780 (x : X) : Obj := ⟨(.type x.t.a.a.g), none, (.fields #[(.builtin x.t.a.c.a), (.ref 133)]), #[]⟩
def b781 (x : X) : Obj := ⟨(.type x.t.a.a.d), none, (.dict #[(i0 x), (i1 x), (i2 x), (i3 x), (i4 x), (i5 x), (i6 x), (i7 x), (i8 x), (i9 x), (i16 x), (i22 x), (i28 x), (i34 x), (i40 x), (i46 x), (i52 x), (i58 x), (i64 x), (i70 x)] 20), #[]⟩
def b782 (x : X) : Obj := ⟨.none, none, (.fields #[(.int 2 0), (.int 0 0), (.ref 20), (.int 4 0), (.int 0 0), (.ref 33), (.int 6 0), (.int 0 0), (.ref 45), (.int 8 0), (.int 0 0), (.ref 57), (.int 10 0), (.int 0 0), (.ref 69), (.int 12 0), (.int 0 0), (.ref 81), (.int 14 0), (.int 0 0), (.ref 93), (.int 16 0), (.int 0 0), (.ref 105), (.int 18 0), (.int 0 0), (.ref 117), (.int 20 0), (.int 0 0), (.ref 129), (.int 22 0), (.int 0 0), (.ref 141)]), #[]⟩
def b783 (x : X) : Obj := ⟨(.type x.t.a.b.a), none, (.cls ⟨x.s.a.b.f, [(.type x.t.a.a.f)], [(.ref 24), (.type x.t.a.a.f), (.type x.t.a.b.b), (.type x.t.a.b.c), (.type x.t.a.b.d)], 23, x.s.a.b.f, true, [], [(.ref 37), (.ref 49), (.ref 61), (.ref 73), (.ref 85), (.ref 97), (.ref 109), (.ref 121), (.ref 133), (.ref 145)], false, none, false⟩), #[(some (.ref 15)), none, (some (.str x.s.a.b.f 189)), (some (.str x.s.a.b.f 197)), (some (.builtin x.t.a.b.e)), (some (.bool true))]⟩
def b784 (x : X) : Obj := ⟨(.type x.t.a.a.a), none, (.seq #[(.ref 24)] 0), #[]⟩
def b785 (x : X) : Obj := ⟨(.type x.t.a.a.g), none, (.fields #[(.builtin x.t.a.a.h), (.type x.t.a.b.a)]), #[]⟩
def b786 (x : X) : Obj := ⟨(.type x.t.a.a.d), none, (.dict #[(i71 x), (i72 x), (i73 x), (i74 x)] 4), #[]⟩
def b787 (x : X) : Obj := ⟨(.type x.t.a.a.a), none, (.seq #[] 0), #[]⟩
def b788 (x : X) : Obj := ⟨.none, none, (.fields #[]), #[]⟩
def b789 (x : X) : Obj := ⟨(.type x.t.a.a.b), none, (.fields #[(.str x.s.a.d.e 353), (.str x.s.a.d.e 354), (.str x.s.a.a.b 355), (.int 22 0), (.int 0 0), (.int 0 0), (.int 0 0), (.int 0 0), (.ref 139), (.bool false), (.int 181 0), (.ref 140), .none, .none, .none, .none, (.int 356 0), (.int 22 0), (.str x.s.a.a.b 357)]), #[]⟩
def b790 (x : X) : Obj := ⟨(.type x.t.a.a.c), none, .plain, #[(some (.ref 141)), (some (.ref 3)), (some (.ref 138)), none, (some (.str x.s.a.a.e 187)), none, (some (.ref 0))]⟩
def b791 (x : X) : Obj := ⟨(.type x.t.a.a.a), none, (.seq #[] 0), #[]⟩
def b792 (x : X) : Obj := ⟨(.type x.t.a.a.d), none, (.dict #[(i71 x), (i73 x), (i74 x), (i75 x)] 2), #[]⟩
def b793 (x : X) : Obj := ⟨(.type x.t.a.b.a), none, (.cls ⟨x.s.a.d.e, [(.ref 24)], [(.ref 145), (.ref 24), (.type x.t.a.a.f), (.type x.t.a.b.b), (.type x.t.a.b.c), (.type x.t.a.b.d)], 144, x.s.a.d.e, true, [], [], false, none, false⟩), #[(some (.ref 136)), none, (some (.str x.s.a.d.e 351)), (some (.str x.s.a.d.e 359)), (some (.builtin x.t.a.b.e)), (some (.bool true))]⟩
def b794 (x : X) : Obj := ⟨(.type x.t.a.b.h), none, (.fields #[(.ref 145), (.ref 145), (.ref 145)]), #[]⟩
def b795 (x : X) : Obj := ⟨(.type x.t.a.a.g), none, (.fields #[(.builtin x.t.a.c.a), (.ref 145)]), #[]⟩
def b796 (x : X) : Obj := ⟨(.type x.t.a.a.d), none, (.dict #[(i0 x), (i1 x), (i2 x), (i3 x), (i4 x), (i5 x), (i6 x), (i7 x), (i8 x), (i9 x), (i16 x), (i22 x), (i28 x), (i34 x), (i40 x), (i46 x), (i52 x), (i58 x), (i64 x), (i70 x), (i76 x)] 21), #[]⟩
def b797 (x : X) : Obj := ⟨.none, none, (.fields #[(.int 2 0), (.int 0 0), (.ref 20), (.int 4 0), (.int 0 0), (.ref 33), (.int 6 0), (.int 0 0), (.ref 45), (.int 8 0), (.int 0 0), (.ref 57), (.int 10 0), (.int 0 0), (.ref 69), (.int 12 0), (.int 0 0), (.ref 81), (.int 14 0), (.int 0 0), (.ref 93), (.int 16 0), (.int 0 0), (.ref 105), (.int 18 0), (.int 0 0), (.ref 117), (.int 20 0), (.int 0 0), (.ref 129), (.int 22 0), (.int 0 0), (.ref 141), (.int 24 0), (.int 0 0), (.ref 153)]), #[]⟩
def b798 (x : X) : Obj := ⟨(.type x.t.a.b.a), none, (.cls ⟨x.s.a.b.f, [(.type x.t.a.a.f)], [(.ref 24), (.type x.t.a.a.f), (.type x.t.a.b.b), (.type x.t.a.b.c), (.type x.t.a.b.d)], 23, x.s.a.b.f, true, [], [(.ref 37), (.ref 49), (.ref 61), (.ref 73), (.ref 85), (.ref 97), (.ref 109), (.ref 121), (.ref 133), (.ref 145), (.ref 157)], false, none, false⟩), #[(some (.ref 15)), none, (some (.str x.s.a.b.f 189)), (some (.str x.s.a.b.f 197)), (some (.builtin x.t.a.b.e)), (some (.bool true))]⟩
def b799 (x : X) : Obj := ⟨(.type x.t.a.a.a), none, (.seq #[(.ref 24)] 0), #[]⟩
def b800 (x : X) : Obj := ⟨(.type x.t.a.a.g), none, (.fields #[(.builtin x.t.a.a.h), (.type x.t.a.b.a)]), #[]⟩
def b801 (x : X) : Obj := ⟨(.type x.t.a.a.d), none, (.dict #[(i77 x), (i78 x), (i79 x), (i80 x)] 4), #[]⟩
def b802 (x : X) : Obj := ⟨(.type x.t.a.a.a), none, (.seq #[] 0), #[]⟩
def b803 (x : X) : Obj := ⟨.none, none, (.fields #[]), #[]⟩
def b804 (x : X) : Obj := ⟨(.type x.t.a.a.b), none, (.fields #[(.str x.s.a.d.f 369), (.str x.s.a.d.f 370), (.str x.s.a.a.b 371), (.int 24 0), (.int 0 0), (.int 0 0), (.int 0 0), (.int 0 0), (.ref 151), (.bool false), (.int 181 0), (.ref 152), .none, .none, .none, .none, (.int 372 0), (.int 24 0), (.str x.s.a.a.b 373)]), #[]⟩
def b805 (x : X) : Obj := ⟨(.type x.t.a.a.c), none, .plain, #[(some (.ref 153)), (some (.ref 3)), (some (.ref 150)), none, (some (.str x.s.a.a.e 187)), none, (some (.ref 0))]⟩
def b806 (x : X) : Obj := ⟨(.type x.t.a.a.a), none, (.seq #[] 0), #[]⟩
def b807 (x : X) : Obj := ⟨(.type x.t.a.a.d), none, (.dict #[(i77 x), (i79 x), (i80 x), (i81 x)] 2), #[]⟩
def b808 (x : X) : Obj := ⟨(.type x.t.a.b.a), none, (.cls ⟨x.s.a.d.f, [(.ref 24)], [(.ref 157), (.ref 24), (.type x.t.a.a.f), (.type x.t.a.b.b), (.type x.t.a.b.c), (.type x.t.a.b.d)], 156, x.s.a.d.f, true, [], [], false, none, false⟩), #[(some (.ref 148)), none, (some (.str x.s.a.d.f 367)), (some (.str x.s.a.d.f 375)), (some (.builtin x.t.a.b.e)), (some (.bool true))]⟩
def b809 (x : X) : Obj := ⟨(.type x.t.a.b.h), none, (.fields #[(.ref 157), (.ref 157), (.ref 157)]), #[]⟩
def b810 (x : X) : Obj := ⟨(.type x.t.a.a.g), none, (.fields #[(.builtin x.t.a.c.a), (.ref 157)]), #[]⟩
def b811 (x : X) : Obj := ⟨(.type x.t.a.a.d), none, (.dict #[(i0 x), (i1 x), (i2 x), (i3 x), (i4 x), (i5 x), (i6 x), (i7 x), (i8 x), (i9 x), (i16 x), (i22 x), (i28 x), (i34 x), (i40 x), (i46 x), (i52 x), (i58 x), (i64 x), (i70 x), (i76 x), (i82 x)] 22), #[]⟩
def b812 (x : X) : Obj := ⟨.none, none, (.fields #[(.int 2 0), (.int 0 0), (.ref 20), (.int 4 0), (.int 0 0), (.ref 33), (.int 6 0), (.int 0 0), (.ref 45), (.int 8 0), (.int 0 0), (.ref 57), (.int 10 0), (.int 0 0), (.ref 69), (.int 12 0), (.int 0 0), (.ref 81), (.int 14 0), (.int 0 0), (.ref 93), (.int 16 0), (.int 0 0), (.ref 105), (.int 18 0), (.int 0 0), (.ref 117), (.int 20 0), (.int 0 0), (.ref 129), (.int 22 0), (.int 0 0), (.ref 141), (.int 24 0), (.int 0 0), (.ref 153), (.int 26 0), (.int 0 0), (.ref 165)]), #[]⟩
def b813 (x : X) : Obj := ⟨(.type x.t.a.b.a), none, (.cls ⟨x.s.a.b.f, [(.type x.t.a.a.f)], [(.ref 24), (.type x.t.a.a.f), (.type x.t.a.b.b), (.type x.t.a.b.c), (.type x.t.a.b.d)], 23, x.s.a.b.f, true, [], [(.ref 37), (.ref 49), (.ref 61), (.ref 73), (.ref 85), (.ref 97), (.ref 109), (.ref 121), (.ref 133), (.ref 145), (.ref 157), (.ref 169)], false, none, false⟩), #[(some (.ref 15)), none, (some (.str x.s.a.b.f 189)), (some (.str x.s.a.b.f 197)), (some (.builtin x.t.a.b.e)), (some (.bool true))]⟩
def b814 (x : X) : Obj := ⟨(.type x.t.a.a.a), none, (.seq #[(.ref 24)] 0), #[]⟩
def b815 (x : X) : Obj := ⟨(.type x.t.a.a.g), none, (.fields #[(.builtin x.t.a.a.h), (.type x.t.a.b.a)]), #[]⟩
def b816 (x : X) : Obj := ⟨(.type x.t.a.a.d), none, (.dict #[(i83 x), (i84 x), (i85 x), (i86 x)] 4), #[]⟩
def b817 (x : X) : Obj := ⟨(.type x.t.a.a.a), none, (.seq #[] 0), #[]⟩
def b818 (x : X) : Obj := ⟨.none, none, (.fields #[]), #[]⟩
def b819 (x : X) : Obj := ⟨(.type x.t.a.a.b), none, (.fields #[(.str x.s.a.d.g 385), (.str x.s.a.d.g 386), (.str x.s.a.a.b 387), (.int 26 0), (.int 0 0), (.int 0 0), (.int 0 0), (.int 0 0), (.ref 163), (.bool false), (.int 181 0), (.ref 164), .none, .none, .none, .none, (.int 388 0), (.int 26 0), (.str x.s.a.a.b 389)]), #[]⟩
def b820 (x : X) : Obj := ⟨(.type x.t.a.a.c), none, .plain, #[(some (.ref 165)), (some (.ref 3)), (some (.ref 162)), none, (some (.str x.s.a.a.e 187)), none, (some (.ref 0))]⟩
def b821 (x : X) : Obj := ⟨(.type x.t.a.a.a), none, (.seq #[] 0), #[]⟩
def b822 (x : X) : Obj := ⟨(.type x.t.a.a.d), none, (.dict #[(i83 x), (i85 x), (i86 x), (i87 x)] 2), #[]⟩
def b823 (x : X) : Obj := ⟨(.type x.t.a.b.a), none, (.cls ⟨x.s.a.d.g, [(.ref 24)], [(.ref 169), (.ref 24), (.type x.t.a.a.f), (.type x.t.a.b.b), (.type x.t.a.b.c), (.type x.t.a.b.d)], 168, x.s.a.d.g, true, [], [], false, none, false⟩), #[(some (.ref 160)), none, (some (.str x.s.a.d.g 383)), (some (.str x.s.a.d.g 391)), (some (.builtin x.t.a.b.e)), (some (.bool true))]⟩
def b824 (x : X) : Obj := ⟨(.type x.t.a.b.h), none, (.fields #[(.ref 169), (.ref 169), (.ref 169)]), #[]⟩
def b825 (x : X) : Obj := ⟨(.type x.t.a.a.g), none, (.fields #[(.builtin x.t.a.c.a), (.ref 169)]), #[]⟩
def b826 (x : X) : Obj := ⟨(.type x.t.a.a.d), none, (.dict #[(i0 x), (i1 x), (i2 x), (i3 x), (i4 x), (i5 x), (i6 x), (i7 x), (i8 x), (i9 x), (i16 x), (i22 x), (i28 x), (i34 x), (i40 x), (i46 x), (i52 x), (i58 x), (i64 x), (i70 x), (i76 x), (i82 x), (i88 x)] 23), #[]⟩
def b827 (x : X) : Obj := ⟨.none, none, (.fields #[(.int 2 0), (.int 0 0), (.ref 20), (.int 4 0), (.int 0 0), (.ref 33), (.int 6 0), (.int 0 0), (.ref 45), (.int 8 0), (.int 0 0), (.ref 57), (.int 10 0), (.int 0 0), (.ref 69), (.int 12 0), (.int 0 0), (.ref 81), (.int 14 0), (.int 0 0), (.ref 93), (.int 16 0), (.int 0 0), (.ref 105), (.int 18 0), (.int 0 0), (.ref 117), (.int 20 0), (.int 0 0), (.ref 129), (.int 22 0), (.int 0 0), (.ref 141), (.int 24 0), (.int 0 0), (.ref 153), (.int 26 0), (.int 0 0), (.ref 165), (.int 28 0), (.int 0 0), (.ref 177)]), #[]⟩
def b828 (x : X) : Obj := ⟨(.type x.t.a.b.a), none, (.cls ⟨x.s.a.b.f, [(.type x.t.a.a.f)], [(.ref 24), (.type x.t.a.a.f), (.type x.t.a.b.b), (.type x.t.a.b.c), (.type x.t.a.b.d)], 23, x.s.a.b.f, true, [], [(.ref 37), (.ref 49), (.ref 61), (.ref 73), (.ref 85), (.ref 97), (.ref 109), (.ref 121), (.ref 133), (.ref 145), (.ref 157), (.ref 169), (.ref 181)], false, none, false⟩), #[(some (.ref 15)), none, (some (.str x.s.a.b.f 189)), (some (.str x.s.a.b.f 197)), (some (.builtin x.t.a.b.e)), (some (.bool true))]⟩
def b829 (x : X) : Obj := ⟨(.type x.t.a.a.a), none, (.seq #[(.ref 24)] 0), #[]⟩
def b830 (x : X) : Obj := ⟨(.type x.t.a.a.g), none, (.fields #[(.builtin x.t.a.a.h), (.type x.t.a.b.a)]), #[]⟩
def b831 (x : X) : Obj := ⟨(.type x.t.a.a.d), none, (.dict #[(i89 x), (i90 x), (i91 x), (i92 x)] 4), #[]⟩
def b832 (x : X) : Obj := ⟨(.type x.t.a.a.a), none, (.seq #[] 0), #[]⟩
def b833 (x : X) : Obj := ⟨.none, none, (.fields #[]), #[]⟩
def b834 (x : X) : Obj := ⟨(.type x.t.a.a.b), none, (.fields #[(.str x.s.a.d.h 401), (.str x.s.a.d.h 402), (.str x.s.a.a.b 403), (.int 28 0), (.int 0 0), (.int 0 0), (.int 0 0), (.int 0 0), (.ref 175), (.bool false), (.int 181 0), (.ref 176), .none, .none, .none, .none, (.int 404 0), (.int 28 0), (.str x.s.a.a.b 405)]), #[]⟩
def b835 (x : X) : Obj := ⟨(.type x.t.a.a.c), none, .plain, #[(some (.ref 177)), (some (.ref 3)), (some (.ref 174)), none, (some (.str x.s.a.a.e 187)), none, (some (.ref 0))]⟩
def b836 (x : X) : Obj := ⟨(.type x.t.a.a.a), none, (.seq #[] 0), #[]⟩
def b837 (x : X) : Obj := ⟨(.type x.t.a.a.d), none, (.dict #[(i89 x), (i91 x), (i92 x), (i93 x)] 2), #[]⟩
def b838 (x : X) : Obj := ⟨(.type x.t.a.b.a), none, (.cls ⟨x.s.a.d.h, [(.ref 24)], [(.ref 181), (.ref 24), (.type x.t.a.a.f), (.type x.t.a.b.b), (.type x.t.a.b.c), (.type x.t.a.b.d)], 180, x.s.a.d.h, true, [], [], false, none, false⟩), #[(some (.ref 172)), none, (some (.str x.s.a.d.h 399)), (some (.str x.s.a.d.h 407)), (some (.builtin x.t.a.b.e)), (some (.bool true))]⟩
def b839 (x : X) : Obj := ⟨(.type x.t.a.b.h), none, (.fields #[(.ref 181), (.ref 181), (.ref 181)]), #[]⟩
def b840 (x : X) : Obj := ⟨(.type x.t.a.a.g), none, (.fields #[(.builtin x.t.a.c.a), (.ref 181)]), #[]⟩
def b841 (x : X) : Obj := ⟨(.type x.t.a.a.d), none, (.dict #[(i0 x), (i1 x), (i2 x), (i3 x), (i4 x), (i5 x), (i6 x), (i7 x), (i8 x), (i9 x), (i16 x), (i22 x), (i28 x), (i34 x), (i40 x), (i46 x), (i52 x), (i58 x), (i64 x), (i70 x), (i76 x), (i82 x), (i88 x), (i94 x)] 24), #[]⟩
def b842 (x : X) : Obj := ⟨.none, none, (.fields #[(.int 2 0), (.int 0 0), (.ref 20), (.int 4 0), (.int 0 0), (.ref 33), (.int 6 0), (.int 0 0), (.ref 45), (.int 8 0), (.int 0 0), (.ref 57), (.int 10 0), (.int 0 0), (.ref 69), (.int 12 0), (.int 0 0), (.ref 81), (.int 14 0), (.int 0 0), (.ref 93), (.int 16 0), (.int 0 0), (.ref 105), (.int 18 0), (.int 0 0), (.ref 117), (.int 20 0), (.int 0 0), (.ref 129), (.int 22 0), (.int 0 0), (.ref 141), (.int 24 0), (.int 0 0), (.ref 153), (.int 26 0), (.int 0 0), (.ref 165), (.int 28 0), (.int 0 0), (.ref 177), (.int 30 0), (.int 0 0), (.ref 189)]), #[]⟩
def b843 (x : X) : Obj := ⟨(.type x.t.a.b.a), none, (.cls ⟨x.s.a.b.f, [(.type x.t.a.a.f)], [(.ref 24), (.type x.t.a.a.f), (.type x.t.a.b.b), (.type x.t.a.b.c), (.type x.t.a.b.d)], 23, x.s.a.b.f, true, [], [(.ref 37), (.ref 49), (.ref 61), (.ref 73), (.ref 85), (.ref 97), (.ref 109), (.ref 121), (.ref 133), (.ref 145), (.ref 157), (.ref 169), (.ref 181), (.ref 193)], false, none, false⟩), #[(some (.ref 15)), none, (some (.str x.s.a.b.f 189)), (some (.str x.s.a.b.f 197)), (some (.builtin x.t.a.b.e)), (some (.bool true))]⟩
def b844 (x : X) : Obj := ⟨(.type x.t.a.a.a), none, (.seq #[(.ref 24)] 0), #[]⟩
def b845 (x : X) : Obj := ⟨(.type x.t.a.a.g), none, (.fields #[(.builtin x.t.a.a.h), (.type x.t.a.b.a)]), #[]⟩
def b846 (x : X) : Obj := ⟨(.type x.t.a.a.d), none, (.dict #[(i95 x), (i96 x), (i97 x), (i98 x)] 4), #[]⟩
def b847 (x : X) : Obj := ⟨(.type x.t.a.a.a), none, (.seq #[] 0), #[]⟩
def b848 (x : X) : Obj := ⟨.none, none, (.fields #[]), #[]⟩
def b849 (x : X) : Obj := ⟨(.type x.t.a.a.b), none, (.fields #[(.str x.s.a.e.a 417), (.str x.s.a.e.a 418), (.str x.s.a.a.b 419), (.int 30 0), (.int 0 0), (.int 0 0), (.int 0 0), (.int 0 0), (.ref 187), (.bool false), (.int 181 0), (.ref 188), .none, .none, .none, .none, (.int 420 0), (.int 30 0), (.str x.s.a.a.b 421)]), #[]⟩
def b850 (x : X) : Obj := ⟨(.type x.t.a.a.c), none, .plain, #[(some (.ref 189)), (some (.ref 3)), (some (.ref 186)), none, (some (.str x.s.a.a.e 187)), none, (some (.ref 0))]⟩
def b851 (x : X) : Obj := ⟨(.type x.t.a.a.a), none, (.seq #[] 0), #[]⟩
def b852 (x : X) : Obj := ⟨(.type x.t.a.a.d), none, (.dict #[(i95 x), (i97 x), (i98 x), (i99 x)] 2), #[]⟩
def b853 (x : X) : Obj := ⟨(.type x.t.a.b.a), none, (.cls ⟨x.s.a.e.a, [(.ref 24)], [(.ref 193), (.ref 24), (.type x.t.a.a.f), (.type x.t.a.b.b), (.type x.t.a.b.c), (.type x.t.a.b.d)], 192, x.s.a.e.a, true, [], [], false, none, false⟩), #[(some (.ref 184)), none, (some (.str x.s.a.e.a 415)), (some (.str x.s.a.e.a 423)), (some (.builtin x.t.a.b.e)), (some (.bool true))]⟩
def b854 (x : X) : Obj := ⟨(.type x.t.a.b.h), none, (.fields #[(.ref 193), (.ref 193), (.ref 193)]), #[]⟩
def b855 (x : X) : Obj := ⟨(.type x.t.a.a.g), none, (.fields #[(.builtin x.t.a.c.a), (.ref 193)]), #[]⟩
def b856 (x : X) : Obj := ⟨(.type x.t.a.a.d), none, (.dict #[(i0 x), (i1 x), (i2 x), (i3 x), (i4 x), (i5 x), (i6 x), (i7 x), (i8 x), (i9 x), (i16 x), (i22 x), (i28 x), (i34 x), (i40 x), (i46 x), (i52 x), (i58 x), (i64 x), (i70 x), (i76 x), (i82 x), (i88 x), (i94 x), (i100 x)] 25), #[]⟩
def b857 (x : X) : Obj := ⟨.none, none, (.fields #[(.int 2 0), (.int 0 0), (.ref 20), (.int 4 0), (.int 0 0), (.ref 33), (.int 6 0), (.int 0 0), (.ref 45), (.int 8 0), (.int 0 0), (.ref 57), (.int 10 0), (.int 0 0), (.ref 69), (.int 12 0), (.int 0 0), (.ref 81), (.int 14 0), (.int 0 0), (.ref 93), (.int 16 0), (.int 0 0), (.ref 105), (.int 18 0), (.int 0 0), (.ref 117), (.int 20 0), (.int 0 0), (.ref 129), (.int 22 0), (.int 0 0), (.ref 141), (.int 24 0), (.int 0 0), (.ref 153), (.int 26 0), (.int 0 0), (.ref 165), (.int 28 0), (.int 0 0), (.ref 177), (.int 30 0), (.int 0 0), (.ref 189), (.int 32 0), (.int 0 0), (.ref 201)]), #[]⟩
def b858 (x : X) : Obj := ⟨(.type x.t.a.b.a), none, (.cls ⟨x.s.a.b.f, [(.type x.t.a.a.f)], [(.ref 24), (.type x.t.a.a.f), (.type x.t.a.b.b), (.type x.t.a.b.c), (.type x.t.a.b.d)], 23, x.s.a.b.f, true, [], [(.ref 37), (.ref 49), (.ref 61), (.ref 73), (.ref 85), (.ref 97), (.ref 109), (.ref 121), (.ref 133), (.ref 145), (.ref 157), (.ref 169), (.ref 181), (.ref 193), (.ref 212)], false, none, false⟩), #[(some (.ref 15)), none, (some (.str x.s.a.b.f 189)), (some (.str x.s.a.b.f 197)), (some (.builtin x.t.a.b.e)), (some (.bool true))]⟩
def b859 (x : X) : Obj := ⟨(.type x.t.a.a.a), none, (.seq #[(.ref 24)] 0), #[]⟩
def b860 (x : X) : Obj := ⟨(.type x.t.a.a.g), none, (.fields #[(.builtin x.t.a.a.h), (.type x.t.a.b.a)]), #[]⟩
def b861 (x : X) : Obj := ⟨(.type x.t.a.a.d), none, (.dict #[(i101 x), (i102 x), (i103 x), (i104 x), (i105 x)] 5), #[]⟩
def b862 (x : X) : Obj := ⟨(.type x.t.a.a.a), none, (.seq #[] 0), #[]⟩
def b863 (x : X) : Obj := ⟨.none, none, (.fields #[(.int 34 0), (.int 4 0), (.ref 208)]), #[]⟩
def b864 (x : X) : Obj := ⟨(.type x.t.a.a.b), none, (.fields #[(.str x.s.a.e.b 433), (.str x.s.a.e.b 434), (.str x.s.a.a.b 435), (.int 32 0), (.int 0 0), (.int 0 0), (.int 0 0), (.int 0 0), (.ref 199), (.bool false), (.int 181 0), (.ref 200), .none, .none, .none, .none, (.int 436 0), (.int 32 0), (.str x.s.a.a.b 437)]), #[]⟩
def b865 (x : X) : Obj := ⟨(.type x.t.a.a.c), none, .plain, #[(some (.ref 201)), (some (.ref 3)), (some (.ref 198)), none, (some (.str x.s.a.a.e 187)), none, (some (.ref 0))]⟩
def b866 (x : X) : Obj := ⟨(.type x.t.a.a.a), none, (.seq #[] 0), #[]⟩
def b867 (x : X) : Obj := ⟨.none, none, (.fields #[]), #[]⟩
def b868 (x : X) : Obj := ⟨(.type x.t.a.a.a), none, (.seq #[(.str x.s.a.e.d 446), (.str x.s.a.e.e 447)] 0), #[]⟩
def b869 (x : X) : Obj := ⟨(.type x.t.a.a.a), none, (.seq #[] 0), #[]⟩
def b870 (x : X) : Obj := ⟨.none, none, (.func (fn (sm x 16 0) x.s.a.e.f 0 [] .none .none .none .none none .none .none 0)), #[]⟩
def b871 (x : X) : Obj := ⟨(.type x.t.a.a.b), none, (.fields #[(.str x.s.a.e.c 443), (.str x.s.a.e.f 444), (.str x.s.a.a.b 445), (.int 34 0), (.int 2 0), (.int 0 0), (.int 0 0), (.int 3 0), (.ref 203), (.bool true), (.int 181 0), (.ref 204), .none, (.ref 205), (.ref 206), (.ref 207), (.int 448 0), (.int 34 0), (.str x.s.a.a.b 449)]), #[]⟩
def b872 (x : X) : Obj := ⟨(.type x.t.a.c.b), none, (.func (fn (sm x 16 0) x.s.a.e.f 3 [] .none .none .none (.str x.s.a.a.e 187) none (.ref 208) .none 0)), #[]⟩
def b873 (x : X) : Obj := ⟨(.type x.t.a.a.a), none, (.seq #[(.str x.s.a.e.e 451)] 0), #[]⟩
def b874 (x : X) : Obj := ⟨(.type x.t.a.a.d), none, (.dict #[(i101 x), (i103 x), (i104 x), (i105 x), (i106 x)] 2), #[]⟩
def b875 (x : X) : Obj := ⟨(.type x.t.a.b.a), none, (.cls ⟨x.s.a.e.b, [(.ref 24)], [(.ref 212), (.ref 24), (.type x.t.a.a.f), (.type x.t.a.b.b), (.type x.t.a.b.c), (.type x.t.a.b.d)], 211, x.s.a.e.b, true, [], [], false, none, false⟩), #[(some (.ref 196)), none, (some (.str x.s.a.e.b 431)), (some (.str x.s.a.e.b 439)), (some (.builtin x.t.a.b.e)), (some (.bool true))]⟩
def b876 (x : X) : Obj := ⟨(.type x.t.a.b.h), none, (.fields #[(.ref 212), (.ref 212), (.ref 212)]), #[]⟩
def b877 (x : X) : Obj := ⟨(.type x.t.a.a.g), none, (.fields #[(.builtin x.t.a.c.a), (.ref 212)]), #[]⟩
def b878 (x : X) : Obj := ⟨(.type x.t.a.a.d), none, (.dict #[(i0 x), (i1 x), (i2 x), (i3 x), (i4 x), (i5 x), (i6 x), (i7 x), (i8 x), (i9 x), (i16 x), (i22 x), (i28 x), (i34 x), (i40 x), (i46 x), (i52 x), (i58 x), (i64 x), (i70 x), (i76 x), (i82 x), (i88 x), (i94 x), (i100 x), (i107 x)] 26), #[]⟩
def b879 (x : X) : Obj := ⟨.none, none, (.fields #[(.int 2 0), (.int 0 0), (.ref 20), (.int 4 0), (.int 0 0), (.ref 33), (.int 6 0), (.int 0 0), (.ref 45), (.int 8 0), (.int 0 0), (.ref 57), (.int 10 0), (.int 0 0), (.ref 69), (.int 12 0), (.int 0 0), (.ref 81), (.int 14 0), (.int 0 0), (.ref 93), (.int 16 0), (.int 0 0), (.ref 105), (.int 18 0), (.int 0 0), (.ref 117), (.int 20 0), (.int 0 0), (.ref 129), (.int 22 0), (.int 0 0), (.ref 141), (.int 24 0), (.int 0 0), (.ref 153), (.int 26 0), (.int 0 0), (.ref 165), (.int 28 0), (.int 0 0), (.ref 177), (.int 30 0), (.int 0 0), (.ref 189), (.int 32 0), (.int 0 0), (.ref 201), (.int 37 0), (.int 0 0), (.ref 220)]), #[]⟩
def b880 (x : X) : Obj := ⟨(.type x.t.a.b.a), none, (.cls ⟨x.s.a.b.f, [(.type x.t.a.a.f)], [(.ref 24), (.type x.t.a.a.f), (.type x.t.a.b.b), (.type x.t.a.b.c), (.type x.t.a.b.d)], 23, x.s.a.b.f, true, [], [(.ref 37), (.ref 49), (.ref 61), (.ref 73), (.ref 85), (.ref 97), (.ref 109), (.ref 121), (.ref 133), (.ref 145), (.ref 157), (.ref 169), (.ref 181), (.ref 193), (.ref 212), (.ref 231)], false, none, false⟩), #[(some (.ref 15)), none, (some (.str x.s.a.b.f 189)), (some (.str x.s.a.b.f 197)), (some (.builtin x.t.a.b.e)), (some (.bool true))]⟩
def b881 (x : X) : Obj := ⟨(.type x.t.a.a.a), none, (.seq #[(.ref 24)] 0), #[]⟩
def b882 (x : X) : Obj := ⟨(.type x.t.a.a.g), none, (.fields #[(.builtin x.t.a.a.h), (.type x.t.a.b.a)]), #[]⟩
def b883 (x : X) : Obj := ⟨(.type x.t.a.a.d), none, (.dict #[(i108 x), (i109 x), (i110 x), (i111 x), (i112 x)] 5), #[]⟩
def b884 (x : X) : Obj := ⟨(.type x.t.a.a.a), none, (.seq #[] 0), #[]⟩
def b885 (x : X) : Obj := ⟨.none, none, (.fields #[(.int 39 0), (.int 4 0), (.ref 227)]), #[]⟩
def b886 (x : X) : Obj := ⟨(.type x.t.a.a.b), none, (.fields #[(.str x.s.a.e.g 458), (.str x.s.a.e.g 459), (.str x.s.a.a.b 460), (.int 37 0), (.int 0 0), (.int 0 0), (.int 0 0), (.int 0 0), (.ref 218), (.bool false), (.int 181 0), (.ref 219), .none, .none, .none, .none, (.int 461 0), (.int 37 0), (.str x.s.a.a.b 462)]), #[]⟩
def b887 (x : X) : Obj := ⟨(.type x.t.a.a.c), none, .plain, #[(some (.ref 220)), (some (.ref 3)), (some (.ref 217)), none, (some (.str x.s.a.a.e 187)), none, (some (.ref 0))]⟩
def b888 (x : X) : Obj := ⟨(.type x.t.a.a.a), none, (.seq #[] 0), #[]⟩
def b889 (x : X) : Obj := ⟨.none, none, (.fields #[]), #[]⟩
def b890 (x : X) : Obj := ⟨(.type x.t.a.a.a), none, (.seq #[(.str x.s.a.e.d 471), (.str x.s.a.e.h 472)] 0), #[]⟩
def b891 (x : X) : Obj := ⟨(.type x.t.a.a.a), none, (.seq #[] 0), #[]⟩
def b892 (x : X) : Obj := ⟨.none, none, (.func (fn (sm x 17 0) x.s.a.f.a 0 [] .none .none .none .none none .none .none 0)), #[]⟩
def b893 (x : X) : Obj := ⟨(.type x.t.a.a.b), none, (.fields #[(.str x.s.a.e.c 468), (.str x.s.a.f.a 469), (.str x.s.a.a.b 470), (.int 39 0), (.int 2 0), (.int 0 0), (.int 0 0), (.int 3 0), (.ref 222), (.bool true), (.int 181 0), (.ref 223), .none, (.ref 224), (.ref 225), (.ref 226), (.int 473 0), (.int 39 0), (.str x.s.a.a.b 474)]), #[]⟩
def b894 (x : X) : Obj := ⟨(.type x.t.a.c.b), none, (.func (fn (sm x 17 0) x.s.a.f.a 3 [] .none .none .none (.str x.s.a.a.e 187) none (.ref 227) .none 0)), #[]⟩
def b895 (x : X) : Obj := ⟨(.type x.t.a.a.a), none, (.seq #[(.str x.s.a.e.h 476)] 0), #[]⟩
def b896 (x : X) : Obj := ⟨(.type x.t.a.a.d), none, (.dict #[(i108 x), (i110 x), (i111 x), (i112 x), (i113 x)] 2), #[]⟩
def b897 (x : X) : Obj := ⟨(.type x.t.a.b.a), none, (.cls ⟨x.s.a.e.g, [(.ref 24)], [(.ref 231), (.ref 24), (.type x.t.a.a.f), (.type x.t.a.b.b), (.type x.t.a.b.c), (.type x.t.a.b.d)], 230, x.s.a.e.g, true, [], [], false, none, false⟩), #[(some (.ref 215)), none, (some (.str x.s.a.e.g 456)), (some (.str x.s.a.e.g 464)), (some (.builtin x.t.a.b.e)), (some (.bool true))]⟩
def b898 (x : X) : Obj := ⟨(.type x.t.a.b.h), none, (.fields #[(.ref 231), (.ref 231), (.ref 231)]), #[]⟩
def b899 (x : X) : Obj := ⟨(.type x.t.a.a.g), none, (.fields #[(.builtin x.t.a.c.a), (.ref 231)]), #[]⟩
def b900 (x : X) : Obj := ⟨(.type x.t.a.a.d), none, (.dict #[(i0 x), (i1 x), (i2 x), (i3 x), (i4 x), (i5 x), (i6 x), (i7 x), (i8 x), (i9 x), (i16 x), (i22 x), (i28 x), (i34 x), (i40 x), (i46 x), (i52 x), (i58 x), (i64 x), (i70 x), (i76 x), (i82 x), (i88 x), (i94 x), (i100 x), (i107 x), (i114 x)] 27), #[]⟩
def b901 (x : X) : Obj := ⟨.none, none, (.fields #[(.int 2 0), (.int 0 0), (.ref 20), (.int 4 0), (.int 0 0), (.ref 33), (.int 6 0), (.int 0 0), (.ref 45), (.int 8 0), (.int 0 0), (.ref 57), (.int 10 0), (.int 0 0), (.ref 69), (.int 12 0), (.int 0 0), (.ref 81), (.int 14 0), (.int 0 0), (.ref 93), (.int 16 0), (.int 0 0), (.ref 105), (.int 18 0), (.int 0 0), (.ref 117), (.int 20 0), (.int 0 0), (.ref 129), (.int 22 0), (.int 0 0), (.ref 141), (.int 24 0), (.int 0 0), (.ref 153), (.int 26 0), (.int 0 0), (.ref 165), (.int 28 0), (.int 0 0), (.ref 177), (.int 30 0), (.int 0 0), (.ref 189), (.int 32 0), (.int 0 0), (.ref 201), (.int 37 0), (.int 0 0), (.ref 220), (.int 42 0), (.int 0 0), (.ref 239)]), #[]⟩
def b902 (x : X) : Obj := ⟨(.type x.t.a.b.a), none, (.cls ⟨x.s.a.b.f, [(.type x.t.a.a.f)], [(.ref 24), (.type x.t.a.a.f), (.type x.t.a.b.b), (.type x.t.a.b.c), (.type x.t.a.b.d)], 23, x.s.a.b.f, true, [], [(.ref 37), (.ref 49), (.ref 61), (.ref 73), (.ref 85), (.ref 97), (.ref 109), (.ref 121), (.ref 133), (.ref 145), (.ref 157), (.ref 169), (.ref 181), (.ref 193), (.ref 212), (.ref 231), (.ref 250)], false, none, false⟩), #[(some (.ref 15)), none, (some (.str x.s.a.b.f 189)), (some (.str x.s.a.b.f 197)), (some (.builtin x.t.a.b.e)), (some (.bool true))]⟩
def b903 (x : X) : Obj := ⟨(.type x.t.a.a.a), none, (.seq #[(.ref 24)] 0), #[]⟩
def b904 (x : X) : Obj := ⟨(.type x.t.a.a.g), none, (.fields #[(.builtin x.t.a.a.h), (.type x.t.a.b.a)]), #[]⟩
def b905 (x : X) : Obj := ⟨(.type x.t.a.a.d), none, (.dict #[(i115 x), (i116 x), (i117 x), (i118 x), (i119 x)] 5), #[]⟩
def b906 (x : X) : Obj := ⟨(.type x.t.a.a.a), none, (.seq #[] 0), #[]⟩
def b907 (x : X) : Obj := ⟨.none, none, (.fields #[(.int 44 0), (.int 4 0), (.ref 246)]), #[]⟩
def b908 (x : X) : Obj := ⟨(.type x.t.a.a.b), none, (.fields #[(.str x.s.a.f.b 483), (.str x.s.a.f.b 484), (.str x.s.a.a.b 485), (.int 42 0), (.int 0 0), (.int 0 0), (.int 0 0), (.int 0 0), (.ref 237), (.bool false), (.int 181 0), (.ref 238), .none, .none, .none, .none, (.int 486 0), (.int 42 0), (.str x.s.a.a.b 487)]), #[]⟩
def b909 (x : X) : Obj := ⟨(.type x.t.a.a.c), none, .plain, #[(some (.ref 239)), (some (.ref 3)), (some (.ref 236)), none, (some (.str x.s.a.a.e 187)), none, (some (.ref 0))]⟩
def b910 (x : X) : Obj := ⟨(.type x.t.a.a.a), none, (.seq #[] 0), #[]⟩
def b911 (x : X) : Obj := ⟨.none, none, (.fields #[]), #[]⟩
def b912 (x : X) : Obj := ⟨(.type x.t.a.a.a), none, (.seq #[(.str x.s.a.e.d 496), (.str x.s.a.f.c 497)] 0), #[]⟩
def b913 (x : X) : Obj := ⟨(.type x.t.a.a.a), none, (.seq #[] 0), #[]⟩
def b914 (x : X) : Obj := ⟨.none, none, (.func (fn (sm x 18 0) x.s.a.f.d 0 [] .none .none .none .none none .none .none 0)), #[]⟩
def b915 (x : X) : Obj := ⟨(.type x.t.a.a.b), none, (.fields #[(.str x.s.a.e.c 493), (.str x.s.a.f.d 494), (.str x.s.a.a.b 495), (.int 44 0), (.int 2 0), (.int 0 0), (.int 0 0), (.int 3 0), (.ref 241), (.bool true), (.int 181 0), (.ref 242), .none, (.ref 243), (.ref 244), (.ref 245), (.int 498 0), (.int 44 0), (.str x.s.a.a.b 499)]), #[]⟩
def b916 (x : X) : Obj := ⟨(.type x.t.a.c.b), none, (.func (fn (sm x 18 0) x.s.a.f.d 3 [] .none .none .none (.str x.s.a.a.e 187) none (.ref 246) .none 0)), #[]⟩
def b917 (x : X) : Obj := ⟨(.type x.t.a.a.a), none, (.seq #[(.str x.s.a.f.c 501)] 0), #[]⟩
def b918 (x : X) : Obj := ⟨(.type x.t.a.a.d), none, (.dict #[(i115 x), (i117 x), (i118 x), (i119 x), (i120 x)] 2), #[]⟩
def b919 (x : X) : Obj := ⟨(.type x.t.a.b.a), none, (.cls ⟨x.s.a.f.b, [(.ref 24)], [(.ref 250), (.ref 24), (.type x.t.a.a.f), (.type x.t.a.b.b), (.type x.t.a.b.c), (.type x.t.a.b.d)], 249, x.s.a.f.b, true, [], [], false, none, false⟩), #[(some (.ref 234)), none, (some (.str x.s.a.f.b 481)), (some (.str x.s.a.f.b 489)), (some (.builtin x.t.a.b.e)), (some (.bool true))]⟩
def b920 (x : X) : Obj := ⟨(.type x.t.a.b.h), none, (.fields #[(.ref 250), (.ref 250), (.ref 250)]), #[]⟩
def b921 (x : X) : Obj := ⟨(.type x.t.a.a.g), none, (.fields #[(.builtin x.t.a.c.a), (.ref 250)]), #[]⟩
def b922 (x : X) : Obj := ⟨(.type x.t.a.a.d), none, (.dict #[(i121 x), (i1 x), (i2 x), (i3 x), (i4 x), (i5 x), (i6 x), (i7 x), (i8 x), (i9 x), (i16 x), (i22 x), (i28 x), (i34 x), (i40 x), (i46 x), (i52 x), (i58 x), (i64 x), (i70 x), (i76 x), (i82 x), (i88 x), (i94 x), (i100 x), (i107 x), (i114 x), (i122 x), (i123 x), (i124 x), (i125 x), (i126 x), (i127 x), (i128 x)] 34), #[]⟩
def b923 (x : X) : Obj := ⟨.none, none, (.fields #[(.int 2 0), (.int 0 0), (.ref 20), (.int 4 0), (.int 0 0), (.ref 33), (.int 6 0), (.int 0 0), (.ref 45), (.int 8 0), (.int 0 0), (.ref 57), (.int 10 0), (.int 0 0), (.ref 69), (.int 12 0), (.int 0 0), (.ref 81), (.int 14 0), (.int 0 0), (.ref 93), (.int 16 0), (.int 0 0), (.ref 105), (.int 18 0), (.int 0 0), (.ref 117), (.int 20 0), (.int 0 0), (.ref 129), (.int 22 0), (.int 0 0), (.ref 141), (.int 24 0), (.int 0 0), (.ref 153), (.int 26 0), (.int 0 0), (.ref 165), (.int 28 0), (.int 0 0), (.ref 177), (.int 30 0), (.int 0 0), (.ref 189), (.int 32 0), (.int 0 0), (.ref 201), (.int 37 0), (.int 0 0), (.ref 220), (.int 42 0), (.int 0 0), (.ref 239), (.int 47 0), (.int 0 0), (.ref 258), (.int 53 0), (.int 0 0), (.ref 277), (.int 55 0), (.int 0 0), (.ref 284), (.int 61 0), (.int 0 0), (.ref 291)]), #[]⟩
def b924 (x : X) : Obj := ⟨(.type x.t.a.b.a), none, (.cls ⟨x.s.a.b.f, [(.type x.t.a.a.f)], [(.ref 24), (.type x.t.a.a.f), (.type x.t.a.b.b), (.type x.t.a.b.c), (.type x.t.a.b.d)], 23, x.s.a.b.f, true, [], [(.ref 37), (.ref 49), (.ref 61), (.ref 73), (.ref 85), (.ref 97), (.ref 109), (.ref 121), (.ref 133), (.ref 145), (.ref 157), (.ref 169), (.ref 181), (.ref 193), (.ref 212), (.ref 231), (.ref 250), (.ref 269)], false, none, false⟩), #[(some (.ref 15)), none, (some (.str x.s.a.b.f 189)), (some (.str x.s.a.b.f 197)), (some (.builtin x.t.a.b.e)), (some (.bool true))]⟩
def b925 (x : X) : Obj := ⟨(.type x.t.a.a.a), none, (.seq #[(.ref 24)] 0), #[]⟩
def b926 (x : X) : Obj := ⟨(.type x.t.a.a.g), none, (.fields #[(.builtin x.t.a.a.h), (.type x.t.a.b.a)]), #[]⟩
def b927 (x : X) : Obj := ⟨(.type x.t.a.a.d), none, (.dict #[(i129 x), (i130 x), (i131 x), (i132 x), (i133 x)] 5), #[]⟩
def b928 (x : X) : Obj := ⟨(.type x.t.a.a.a), none, (.seq #[] 0), #[]⟩
def b929 (x : X) : Obj := ⟨.none, none, (.fields #[(.int 49 0), (.int 4 0), (.ref 265)]), #[]⟩
def b930 (x : X) : Obj := ⟨(.type x.t.a.a.b), none, (.fields #[(.str x.s.a.f.f 508), (.str x.s.a.f.f 509), (.str x.s.a.a.b 510), (.int 47 0), (.int 0 0), (.int 0 0), (.int 0 0), (.int 0 0), (.ref 256), (.bool false), (.int 181 0), (.ref 257), .none, .none, .none, .none, (.int 511 0), (.int 47 0), (.str x.s.a.a.b 512)]), #[]⟩
def b931 (x : X) : Obj := ⟨(.type x.t.a.a.c), none, .plain, #[(some (.ref 258)), (some (.ref 3)), (some (.ref 255)), none, (some (.str x.s.a.a.e 187)), none, (some (.ref 0))]⟩
def b932 (x : X) : Obj := ⟨(.type x.t.a.a.a), none, (.seq #[] 0), #[]⟩
def b933 (x : X) : Obj := ⟨.none, none, (.fields #[]), #[]⟩
def b934 (x : X) : Obj := ⟨(.type x.t.a.a.a), none, (.seq #[(.str x.s.a.e.d 521), (.str x.s.a.g.e 522)] 0), #[]⟩
def b935 (x : X) : Obj := ⟨(.type x.t.a.a.a), none, (.seq #[] 0), #[]⟩
def b936 (x : X) : Obj := ⟨.none, none, (.func (fn (sm x 19 0) x.s.a.g.f 0 [] .none .none .none .none none .none .none 0)), #[]⟩
def b937 (x : X) : Obj := ⟨(.type x.t.a.a.b), none, (.fields #[(.str x.s.a.e.c 518), (.str x.s.a.g.f 519), (.str x.s.a.a.b 520), (.int 49 0), (.int 2 0), (.int 0 0), (.int 0 0), (.int 3 0), (.ref 260), (.bool true), (.int 181 0), (.ref 261), .none, (.ref 262), (.ref 263), (.ref 264), (.int 523 0), (.int 49 0), (.str x.s.a.a.b 524)]), #[]⟩
def b938 (x : X) : Obj := ⟨(.type x.t.a.c.b), none, (.func (fn (sm x 19 0) x.s.a.g.f 3 [] .none .none .none (.str x.s.a.a.e 187) none (.ref 265) .none 0)), #[]⟩
def b939 (x : X) : Obj := ⟨(.type x.t.a.a.a), none, (.seq #[(.str x.s.a.g.e 526)] 0), #[]⟩
def b940 (x : X) : Obj := ⟨(.type x.t.a.a.d), none, (.dict #[(i129 x), (i131 x), (i132 x), (i133 x), (i134 x)] 2), #[]⟩
def b941 (x : X) : Obj := ⟨(.type x.t.a.b.a), none, (.cls ⟨x.s.a.f.f, [(.ref 24)], [(.ref 269), (.ref 24), (.type x.t.a.a.f), (.type x.t.a.b.b), (.type x.t.a.b.c), (.type x.t.a.b.d)], 268, x.s.a.f.f, true, [], [], false, none, false⟩), #[(some (.ref 253)), none, (some (.str x.s.a.f.f 506)), (some (.str x.s.a.f.f 514)), (some (.builtin x.t.a.b.e)), (some (.bool true))]⟩
def b942 (x : X) : Obj := ⟨(.type x.t.a.b.h), none, (.fields #[(.ref 269), (.ref 269), (.ref 269)]), #[]⟩
def b943 (x : X) : Obj := ⟨(.type x.t.a.a.g), none, (.fields #[(.builtin x.t.a.c.a), (.ref 269)]), #[]⟩
def b944 (x : X) : Obj := ⟨(.type x.t.a.a.a), none, (.seq #[] 0), #[]⟩
def b945 (x : X) : Obj := ⟨.none, none, (.fields #[]), #[]⟩
def b946 (x : X) : Obj := ⟨(.type x.t.a.a.a), none, (.seq #[(.str x.s.a.g.g 536)] 0), #[]⟩
def b947 (x : X) : Obj := ⟨(.type x.t.a.a.a), none, (.seq #[] 0), #[]⟩
def b948 (x : X) : Obj := ⟨.none, none, (.func (fn (st x 21) x.s.a.f.g 0 [] .none .none .none .none none .none .none 0)), #[]⟩
def b949 (x : X) : Obj := ⟨(.type x.t.a.a.b), none, (.fields #[(.str x.s.a.f.g 533), (.str x.s.a.f.g 534), (.str x.s.a.a.b 535), (.int 53 0), (.int 1 0), (.int 0 0), (.int 0 0), (.int 3 0), (.ref 272), (.bool true), (.int 181 0), (.ref 273), .none, (.ref 274), (.ref 275), (.ref 276), (.int 537 0), (.int 53 0), (.str x.s.a.a.b 538)]), #[]⟩
def b950 (x : X) : Obj := ⟨(.type x.t.a.c.b), none, (.func (fn (st x 21) x.s.a.f.g 3 [] .none .none .none (.str x.s.a.g.h 531) none (.ref 277) .none 0)), #[]⟩
def b951 (x : X) : Obj := ⟨(.type x.t.a.a.a), none, (.seq #[] 0), #[]⟩
def b952 (x : X) : Obj := ⟨.none, none, (.fields #[]), #[]⟩
def b953 (x : X) : Obj := ⟨(.type x.t.a.a.a), none, (.seq #[(.str x.s.a.g.g 543), (.str x.s.a.h.a 544), (.str x.s.a.h.b 545)] 0), #[]⟩
def b954 (x : X) : Obj := ⟨(.type x.t.a.a.a), none, (.seq #[] 0), #[]⟩
def b955 (x : X) : Obj := ⟨.none, none, (.func (fn (st x 22) x.s.a.f.h 0 [] .none .none .none .none none .none .none 0)), #[]⟩
def b956 (x : X) : Obj := ⟨(.type x.t.a.a.b), none, (.fields #[(.str x.s.a.f.h 540), (.str x.s.a.f.h 541), (.str x.s.a.a.b 542), (.int 55 0), (.int 3 0), (.int 0 0), (.int 0 0), (.int 3 0), (.ref 279), (.bool true), (.int 181 0), (.ref 280), .none, (.ref 281), (.ref 282), (.ref 283), (.int 546 0), (.int 55 0), (.str x.s.a.a.b 547)]), #[]⟩
def b957 (x : X) : Obj := ⟨(.type x.t.a.c.b), none, (.func (fn (st x 22) x.s.a.f.h 3 [] .none .none .none (.str x.s.a.g.h 531) none (.ref 284) .none 0)), #[]⟩
def b958 (x : X) : Obj := ⟨(.type x.t.a.a.a), none, (.seq #[] 0), #[]⟩
def b959 (x : X) : Obj := ⟨.none, none, (.fields #[]), #[]⟩
def b960 (x : X) : Obj := ⟨(.type x.t.a.a.a), none, (.seq #[(.str x.s.a.g.g 560), (.str x.s.a.h.c 561), (.str x.s.a.h.d 562), (.str x.s.a.h.e 563), (.str x.s.a.h.f 564)] 0), #[]⟩
def b961 (x : X) : Obj := ⟨(.type x.t.a.a.a), none, (.seq #[] 0), #[]⟩
def b962 (x : X) : Obj := ⟨.none, none, (.func (fn (st x 27) x.s.a.g.d 0 [] .none .none .none .none none .none .none 0)), #[]⟩
def b963 (x : X) : Obj := ⟨(.type x.t.a.a.b), none, (.fields #[(.str x.s.a.g.d 557), (.str x.s.a.g.d 558), (.str x.s.a.a.b 559), (.int 61 0), (.int 2 0), (.int 0 0), (.int 0 0), (.int 3 0), (.ref 286), (.bool true), (.int 181 0), (.ref 287), .none, (.ref 288), (.ref 289), (.ref 290), (.int 565 0), (.int 61 0), (.str x.s.a.a.b 566)]), #[]⟩
def b964 (x : X) : Obj := ⟨(.type x.t.a.c.b), none, (.func (fn (st x 27) x.s.a.g.d 3 [] .none .none .none (.str x.s.a.f.e 549) none (.ref 291) .none 0)), #[]⟩
def b965 (x : X) : Obj := ⟨(.type x.t.a.a.d), none, (.dict #[(i135 x), (i1 x), (i2 x), (i3 x), (i4 x), (i5 x), (i6 x), (i7 x), (i8 x), (i9 x), (i16 x), (i22 x), (i28 x), (i34 x), (i40 x), (i46 x), (i52 x), (i58 x), (i64 x), (i70 x), (i76 x), (i82 x), (i88 x), (i94 x), (i100 x), (i107 x), (i114 x), (i122 x), (i123 x), (i124 x), (i125 x), (i126 x), (i127 x), (i128 x), (i136 x), (i137 x), (i138 x), (i139 x), (i140 x), (i141 x), (i142 x), (i143 x), (i144 x), (i145 x), (i146 x)] 45), #[]⟩
def b966 (x : X) : Obj := ⟨.none, none, (.fields #[(.int 2 0), (.int 0 0), (.ref 20), (.int 4 0), (.int 0 0), (.ref 33), (.int 6 0), (.int 0 0), (.ref 45), (.int 8 0), (.int 0 0), (.ref 57), (.int 10 0), (.int 0 0), (.ref 69), (.int 12 0), (.int 0 0), (.ref 81), (.int 14 0), (.int 0 0), (.ref 93), (.int 16 0), (.int 0 0), (.ref 105), (.int 18 0), (.int 0 0), (.ref 117), (.int 20 0), (.int 0 0), (.ref 129), (.int 22 0), (.int 0 0), (.ref 141), (.int 24 0), (.int 0 0), (.ref 153), (.int 26 0), (.int 0 0), (.ref 165), (.int 28 0), (.int 0 0), (.ref 177), (.int 30 0), (.int 0 0), (.ref 189), (.int 32 0), (.int 0 0), (.ref 201), (.int 37 0), (.int 0 0), (.ref 220), (.int 42 0), (.int 0 0), (.ref 239), (.int 47 0), (.int 0 0), (.ref 258), (.int 53 0), (.int 0 0), (.ref 277), (.int 55 0), (.int 0 0), (.ref 284), (.int 61 0), (.int 0 0), (.ref 291), (.int 66 0), (.int 0 0), (.ref 298), (.int 76 0), (.int 0 0), (.ref 305), (.int 86 0), (.int 0 0), (.ref 312), (.int 100 0), (.int 0 0), (.ref 319), (.int 102 0), (.int 0 0), (.ref 326), (.int 114 0), (.int 0 0), (.ref 333), (.int 118 0), (.int 0 0), (.ref 340), (.int 138 0), (.int 0 0), (.ref 347), (.int 142 0), (.int 0 0), (.ref 354), (.int 158 0), (.int 0 0), (.ref 359), (.int 179 0), (.int 0 0), (.ref 366)]), #[]⟩
def b967 (x : X) : Obj := ⟨(.type x.t.a.a.a), none, (.seq #[] 0), #[]⟩
def b968 (x : X) : Obj := ⟨.none, none, (.fields #[]), #[]⟩
def b969 (x : X) : Obj := ⟨(.type x.t.a.a.a), none, (.seq #[(.str x.s.b.b.c 571), (.str x.s.b.b.d 572), (.str x.s.b.b.e 573), (.str x.s.a.h.d 574), (.str x.s.a.h.e 575), (.str x.s.a.h.f 576)] 0), #[]⟩
def b970 (x : X) : Obj := ⟨(.type x.t.a.a.a), none, (.seq #[] 0), #[]⟩
def b971 (x : X) : Obj := ⟨.none, none, (.func (fn (st x 28) x.s.a.h.h 0 [] .none .none .none .none none .none .none 0)), #[]⟩
def b972 (x : X) : Obj := ⟨(.type x.t.a.a.b), none, (.fields #[(.str x.s.a.h.h 568), (.str x.s.a.h.h 569), (.str x.s.a.a.b 570), (.int 66 0), (.int 1 0), (.int 0 0), (.int 0 0), (.int 3 0), (.ref 293), (.bool true), (.int 181 0), (.ref 294), .none, (.ref 295), (.ref 296), (.ref 297), (.int 577 0), (.int 66 0), (.str x.s.a.a.b 578)]), #[]⟩
def b973 (x : X) : Obj := ⟨(.type x.t.a.c.b), none, (.func (fn (st x 28) x.s.a.h.h 3 [] .none .none .none (.str x.s.a.f.e 549) none (.ref 298) .none 0)), #[]⟩
def b974 (x : X) : Obj := ⟨(.type x.t.a.a.a), none, (.seq #[] 0), #[]⟩
def b975 (x : X) : Obj := ⟨.none, none, (.fields #[]), #[]⟩
def b976 (x : X) : Obj := ⟨(.type x.t.a.a.a), none, (.seq #[(.str x.s.b.b.f 583), (.str x.s.a.h.c 584), (.str x.s.b.b.c 585), (.str x.s.a.g.e 586), (.str x.s.a.e.e 587)] 0), #[]⟩
def b977 (x : X) : Obj := ⟨(.type x.t.a.a.a), none, (.seq #[] 0), #[]⟩
def b978 (x : X) : Obj := ⟨.none, none, (.func (fn (st x 29) x.s.b.a.a 0 [] .none .none .none .none none .none .none 0)), #[]⟩
def b979 (x : X) : Obj := ⟨(.type x.t.a.a.b), none, (.fields #[(.str x.s.b.a.a 580), (.str x.s.b.a.a 581), (.str x.s.a.a.b 582), (.int 76 0), (.int 1 0), (.int 0 0), (.int 0 0), (.int 3 0), (.ref 300), (.bool true), (.int 181 0), (.ref 301), .none, (.ref 302), (.ref 303), (.ref 304), (.int 588 0), (.int 76 0), (.str x.s.a.a.b 589)]), #[]⟩
def b980 (x : X) : Obj := ⟨(.type x.t.a.c.b), none, (.func (fn (st x 29) x.s.b.a.a 3 [] .none .none .none (.str x.s.a.f.e 549) none (.ref 305) .none 0)), #[]⟩
def b981 (x : X) : Obj := ⟨(.type x.t.a.a.a), none, (.seq #[] 0), #[]⟩
def b982 (x : X) : Obj := ⟨.none, none, (.fields #[]), #[]⟩
def b983 (x : X) : Obj := ⟨(.type x.t.a.a.a), none, (.seq #[(.str x.s.b.b.g 596), (.str x.s.b.b.h 597), (.str x.s.b.c.a 598), (.str x.s.b.c.b 599), (.str x.s.b.c.c 600), (.str x.s.b.c.d 601)] 0), #[]⟩
def b984 (x : X) : Obj := ⟨(.type x.t.a.a.a), none, (.seq #[] 0), #[]⟩
def b985 (x : X) : Obj := ⟨.none, none, (.func (fn (st x 31) x.s.b.a.b 0 [] .none .none .none .none none .none .none 0)), #[]⟩
def b986 (x : X) : Obj := ⟨(.type x.t.a.a.b), none, (.fields #[(.str x.s.b.a.b 593), (.str x.s.b.a.b 594), (.str x.s.a.a.b 595), (.int 86 0), (.int 2 0), (.int 0 0), (.int 0 0), (.int 3 0), (.ref 307), (.bool true), (.int 181 0), (.ref 308), .none, (.ref 309), (.ref 310), (.ref 311), (.int 602 0), (.int 86 0), (.str x.s.a.a.b 603)]), #[]⟩
def b987 (x : X) : Obj := ⟨(.type x.t.a.c.b), none, (.func (fn (st x 31) x.s.b.a.b 3 [] .none .none .none (.str x.s.a.h.g 591) none (.ref 312) .none 0)), #[]⟩
def b988 (x : X) : Obj := ⟨(.type x.t.a.a.a), none, (.seq #[] 0), #[]⟩
def b989 (x : X) : Obj := ⟨.none, none, (.fields #[]), #[]⟩
def b990 (x : X) : Obj := ⟨(.type x.t.a.a.a), none, (.seq #[(.str x.s.b.c.e 608)] 0), #[]⟩
def b991 (x : X) : Obj := ⟨(.type x.t.a.a.a), none, (.seq #[] 0), #[]⟩
def b992 (x : X) : Obj := ⟨.none, none, (.func (fn (st x 32) x.s.b.a.c 0 [] .none .none .none .none none .none .none 0)), #[]⟩
def b993 (x : X) : Obj := ⟨(.type x.t.a.a.b), none, (.fields #[(.str x.s.b.a.c 605), (.str x.s.b.a.c 606), (.str x.s.a.a.b 607), (.int 100 0), (.int 1 0), (.int 0 0), (.int 0 0), (.int 3 0), (.ref 314), (.bool true), (.int 181 0), (.ref 315), .none, (.ref 316), (.ref 317), (.ref 318), (.int 609 0), (.int 100 0), (.str x.s.a.a.b 610)]), #[]⟩
def b994 (x : X) : Obj := ⟨(.type x.t.a.c.b), none, (.func (fn (st x 32) x.s.b.a.c 3 [] .none .none .none (.str x.s.a.h.g 591) none (.ref 319) .none 0)), #[]⟩
def b995 (x : X) : Obj := ⟨(.type x.t.a.a.a), none, (.seq #[] 0), #[]⟩
def b996 (x : X) : Obj := ⟨.none, none, (.fields #[]), #[]⟩
def b997 (x : X) : Obj := ⟨(.type x.t.a.a.a), none, (.seq #[(.str x.s.b.c.f 615), (.str x.s.b.c.g 616)] 0), #[]⟩
def b998 (x : X) : Obj := ⟨(.type x.t.a.a.a), none, (.seq #[] 0), #[]⟩
def b999 (x : X) : Obj := ⟨.none, none, (.func (fn (st x 33) x.s.b.a.d 0 [] .none .none .none .none none .none .none 0)), #[]⟩
def b1000 (x : X) : Obj := ⟨(.type x.t.a.a.b), none, (.fields #[(.str x.s.b.a.d 612), (.str x.s.b.a.d 613), (.str x.s.a.a.b 614), (.int 102 0), (.int 1 0), (.int 0 0), (.int 0 0), (.int 3 0), (.ref 321), (.bool true), (.int 181 0), (.ref 322), .none, (.ref 323), (.ref 324), (.ref 325), (.int 617 0), (.int 102 0), (.str x.s.a.a.b 618)]), #[]⟩
def b1001 (x : X) : Obj := ⟨(.type x.t.a.c.b), none, (.func (fn (st x 33) x.s.b.a.d 3 [] .none .none .none (.str x.s.a.h.g 591) none (.ref 326) .none 0)), #[]⟩
def b1002 (x : X) : Obj := ⟨(.type x.t.a.a.a), none, (.seq #[] 0), #[]⟩
def b1003 (x : X) : Obj := ⟨.none, none, (.fields #[]), #[]⟩
def b1004 (x : X) : Obj := ⟨(.type x.t.a.a.a), none, (.seq #[(.str x.s.b.c.d 623), (.str x.s.b.c.h 624)] 0), #[]⟩
def b1005 (x : X) : Obj := ⟨(.type x.t.a.a.a), none, (.seq #[] 0), #[]⟩
def b1006 (x : X) : Obj := ⟨.none, none, (.func (fn (st x 34) x.s.b.a.e 0 [] .none .none .none .none none .none .none 0)), #[]⟩
def b1007 (x : X) : Obj := ⟨(.type x.t.a.a.b), none, (.fields #[(.str x.s.b.a.e 620), (.str x.s.b.a.e 621), (.str x.s.a.a.b 622), (.int 114 0), (.int 1 0), (.int 0 0), (.int 0 0), (.int 3 0), (.ref 328), (.bool true), (.int 181 0), (.ref 329), .none, (.ref 330), (.ref 331), (.ref 332), (.int 625 0), (.int 114 0), (.str x.s.a.a.b 626)]), #[]⟩
def b1008 (x : X) : Obj := ⟨(.type x.t.a.c.b), none, (.func (fn (st x 34) x.s.b.a.e 3 [] .none .none .none (.str x.s.a.h.g 591) none (.ref 333) .none 0)), #[]⟩
def b1009 (x : X) : Obj := ⟨(.type x.t.a.a.a), none, (.seq #[] 0), #[]⟩
def b1010 (x : X) : Obj := ⟨.none, none, (.fields #[]), #[]⟩
def b1011 (x : X) : Obj := ⟨(.type x.t.a.a.a), none, (.seq #[(.str x.s.b.b.g 631), (.str x.s.b.d.a 632), (.str x.s.b.d.b 633), (.str x.s.b.d.c 634), (.str x.s.b.d.d 635), (.str x.s.b.d.e 636), (.str x.s.b.d.f 637), (.str x.s.b.d.g 638), (.str x.s.b.b.h 639), (.str x.s.b.d.h 640), (.str x.s.b.c.d 641), (.str x.s.b.e.a 642), (.str x.s.b.e.b 643), (.str x.s.b.c.a 644), (.str x.s.b.e.c 645), (.str x.s.b.e.d 646)] 0), #[]⟩
def b1012 (x : X) : Obj := ⟨(.type x.t.a.a.a), none, (.seq #[] 0), #[]⟩
def b1013 (x : X) : Obj := ⟨.none, none, (.func (fn (st x 35) x.s.b.a.f 0 [] .none .none .none .none none .none .none 0)), #[]⟩
def b1014 (x : X) : Obj := ⟨(.type x.t.a.a.b), none, (.fields #[(.str x.s.b.a.f 628), (.str x.s.b.a.f 629), (.str x.s.a.a.b 630), (.int 118 0), (.int 4 0), (.int 0 0), (.int 0 0), (.int 3 0), (.ref 335), (.bool true), (.int 181 0), (.ref 336), .none, (.ref 337), (.ref 338), (.ref 339), (.int 647 0), (.int 118 0), (.str x.s.a.a.b 648)]), #[]⟩
def b1015 (x : X) : Obj := ⟨(.type x.t.a.c.b), none, (.func (fn (st x 35) x.s.b.a.f 3 [] .none .none .none (.str x.s.a.h.g 591) none (.ref 340) .none 0)), #[]⟩
def b1016 (x : X) : Obj := ⟨(.type x.t.a.a.a), none, (.seq #[] 0), #[]⟩
def b1017 (x : X) : Obj := ⟨.none, none, (.fields #[]), #[]⟩
def b1018 (x : X) : Obj := ⟨(.type x.t.a.a.a), none, (.seq #[(.str x.s.b.b.g 653), (.str x.s.b.d.a 654)] 0), #[]⟩
def b1019 (x : X) : Obj := ⟨(.type x.t.a.a.a), none, (.seq #[] 0), #[]⟩
def b1020 (x : X) : Obj := ⟨.none, none, (.func (fn (st x 36) x.s.b.a.g 0 [] .none .none .none .none none .none .none 0)), #[]⟩
def b1021 (x : X) : Obj := ⟨(.type x.t.a.a.b), none, (.fields #[(.str x.s.b.a.g 650), (.str x.s.b.a.g 651), (.str x.s.a.a.b 652), (.int 138 0), (.int 2 0), (.int 0 0), (.int 0 0), (.int 3 0), (.ref 342), (.bool true), (.int 181 0), (.ref 343), .none, (.ref 344), (.ref 345), (.ref 346), (.int 655 0), (.int 138 0), (.str x.s.a.a.b 656)]), #[]⟩
def b1022 (x : X) : Obj := ⟨(.type x.t.a.c.b), none, (.func (fn (st x 36) x.s.b.a.g 3 [] .none .none .none (.str x.s.a.h.g 591) none (.ref 347) .none 0)), #[]⟩
def b1023 (x : X) : Obj := ⟨(.type x.t.a.a.a), none, (.seq #[] 0), #[]⟩
def b1024 (x : X) : Obj := ⟨.none, none, (.fields #[]), #[]⟩
def b1025 (x : X) : Obj := ⟨(.type x.t.a.a.a), none, (.seq #[(.str x.s.b.e.e 661), (.str x.s.b.d.d 662), (.str x.s.b.d.h 663), (.str x.s.b.b.h 664), (.str x.s.b.e.c 665), (.str x.s.b.e.d 666), (.str x.s.b.e.f 667), (.str x.s.b.e.g 668), (.str x.s.b.e.h 669)] 0), #[]⟩
def b1026 (x : X) : Obj := ⟨(.type x.t.a.a.a), none, (.seq #[] 0), #[]⟩
def b1027 (x : X) : Obj := ⟨.none, none, (.func (fn (st x 37) x.s.b.a.h 0 [] .none .none .none .none none .none .none 0)), #[]⟩
def b1028 (x : X) : Obj := ⟨(.type x.t.a.a.b), none, (.fields #[(.str x.s.b.a.h 658), (.str x.s.b.a.h 659), (.str x.s.a.a.b 660), (.int 142 0), (.int 1 0), (.int 0 0), (.int 0 0), (.int 3 0), (.ref 349), (.bool true), (.int 181 0), (.ref 350), .none, (.ref 351), (.ref 352), (.ref 353), (.int 670 0), (.int 142 0), (.str x.s.a.a.b 671)]), #[]⟩
def b1029 (x : X) : Obj := ⟨(.type x.t.a.c.b), none, (.func (fn (st x 37) x.s.b.a.h 3 [] .none .none .none (.str x.s.a.h.g 591) none (.ref 354) .none 0)), #[]⟩
def b1030 (x : X) : Obj := ⟨(.type x.t.a.a.a), none, (.seq #[] 0), #[]⟩
def b1031 (x : X) : Obj := ⟨.none, none, (.fields #[]), #[]⟩
def b1032 (x : X) : Obj := ⟨.none, none, (.func (fn (st x 38) x.s.b.b.a 0 [] .none .none .none .none none .none .none 0)), #[]⟩
def b1033 (x : X) : Obj := ⟨(.type x.t.a.a.b), none, (.fields #[(.str x.s.b.b.a 673), (.str x.s.b.b.a 674), (.str x.s.a.a.b 675), (.int 158 0), (.int 3 0), (.int 0 0), (.int 0 0), (.int 3 0), (.ref 356), (.bool true), (.int 181 0), (.ref 357), .none, .none, .none, (.ref 358), (.int 676 0), (.int 158 0), (.str x.s.a.a.b 677)]), #[]⟩
def b1034 (x : X) : Obj := ⟨(.type x.t.a.c.b), none, (.func (fn (st x 38) x.s.b.b.a 3 [] .none .none .none (.str x.s.a.h.g 591) none (.ref 359) .none 0)), #[]⟩
def b1035 (x : X) : Obj := ⟨(.type x.t.a.a.a), none, (.seq #[] 0), #[]⟩
def b1036 (x : X) : Obj := ⟨.none, none, (.fields #[]), #[]⟩
def b1037 (x : X) : Obj := ⟨(.type x.t.a.a.a), none, (.seq #[(.str x.s.b.e.e 682), (.str x.s.b.c.f 683), (.str x.s.b.f.a 684)] 0), #[]⟩
def b1038 (x : X) : Obj := ⟨(.type x.t.a.a.a), none, (.seq #[] 0), #[]⟩
def b1039 (x : X) : Obj := ⟨.none, none, (.func (fn (st x 39) x.s.b.b.b 0 [] .none .none .none .none none .none .none 0)), #[]⟩
def b1040 (x : X) : Obj := ⟨(.type x.t.a.a.b), none, (.fields #[(.str x.s.b.b.b 679), (.str x.s.b.b.b 680), (.str x.s.a.a.b 681), (.int 179 0), (.int 1 0), (.int 0 0), (.int 0 0), (.int 3 0), (.ref 361), (.bool true), (.int 181 0), (.ref 362), .none, (.ref 363), (.ref 364), (.ref 365), (.int 685 0), (.int 179 0), (.str x.s.a.a.b 686)]), #[]⟩
def b1041 (x : X) : Obj := ⟨(.type x.t.a.c.b), none, (.func (fn (st x 39) x.s.b.b.b 3 [] .none .none .none (.str x.s.a.h.g 591) none (.ref 366) .none 0)), #[]⟩
def b1042 (x : X) : Obj := ⟨(.type x.t.a.a.d), none, (.dict #[(i135 x), (i1 x), (i2 x), (i3 x), (i4 x), (i5 x), (i6 x), (i7 x), (i8 x), (i9 x), (i16 x), (i22 x), (i28 x), (i34 x), (i40 x), (i46 x), (i52 x), (i58 x), (i64 x), (i70 x), (i76 x), (i82 x), (i88 x), (i94 x), (i100 x), (i107 x), (i114 x), (i122 x), (i123 x), (i124 x), (i125 x), (i126 x), (i127 x), (i128 x), (i136 x), (i137 x), (i138 x), (i139 x), (i140 x), (i141 x), (i142 x), (i143 x), (i144 x), (i145 x), (i146 x), (i147 x)] 46), #[]⟩
def b1043 (x : X) : Obj := ⟨.none, none, (.fields #[(.int 2 0), (.int 0 0), (.ref 20), (.int 4 0), (.int 0 0), (.ref 33), (.int 6 0), (.int 0 0), (.ref 45), (.int 8 0), (.int 0 0), (.ref 57), (.int 10 0), (.int 0 0), (.ref 69), (.int 12 0), (.int 0 0), (.ref 81), (.int 14 0), (.int 0 0), (.ref 93), (.int 16 0), (.int 0 0), (.ref 105), (.int 18 0), (.int 0 0), (.ref 117), (.int 20 0), (.int 0 0), (.ref 129), (.int 22 0), (.int 0 0), (.ref 141), (.int 24 0), (.int 0 0), (.ref 153), (.int 26 0), (.int 0 0), (.ref 165), (.int 28 0), (.int 0 0), (.ref 177), (.int 30 0), (.int 0 0), (.ref 189), (.int 32 0), (.int 0 0), (.ref 201), (.int 37 0), (.int 0 0), (.ref 220), (.int 42 0), (.int 0 0), (.ref 239), (.int 47 0), (.int 0 0), (.ref 258), (.int 53 0), (.int 0 0), (.ref 277), (.int 55 0), (.int 0 0), (.ref 284), (.int 61 0), (.int 0 0), (.ref 291), (.int 66 0), (.int 0 0), (.ref 298), (.int 76 0), (.int 0 0), (.ref 305), (.int 86 0), (.int 0 0), (.ref 312), (.int 100 0), (.int 0 0), (.ref 319), (.int 102 0), (.int 0 0), (.ref 326), (.int 114 0), (.int 0 0), (.ref 333), (.int 118 0), (.int 0 0), (.ref 340), (.int 138 0), (.int 0 0), (.ref 347), (.int 142 0), (.int 0 0), (.ref 354), (.int 158 0), (.int 0 0), (.ref 359), (.int 179 0), (.int 0 0), (.ref 366), (.int 186 0), (.int 0 0), (.ref 373)]), #[]⟩
def b1044 (x : X) : Obj := ⟨(.type x.t.a.a.a), none, (.seq #[] 0), #[]⟩
def b1045 (x : X) : Obj := ⟨.none, none, (.fields #[]), #[]⟩
def b1046 (x : X) : Obj := ⟨(.type x.t.a.a.a), none, (.seq #[(.str x.s.b.b.g 691), (.str x.s.b.e.e 692), (.str x.s.b.b.h 693), (.str x.s.b.f.c 694), (.str x.s.b.f.d 695), (.str x.s.b.c.f 696)] 0), #[]⟩
def b1047 (x : X) : Obj := ⟨(.type x.t.a.a.a), none, (.seq #[] 0), #[]⟩
def b1048 (x : X) : Obj := ⟨.none, none, (.func (fn (st x 40) x.s.b.f.b 0 [] .none .none .none .none none .none .none 0)), #[]⟩
def b1049 (x : X) : Obj := ⟨(.type x.t.a.a.b), none, (.fields #[(.str x.s.b.f.b 688), (.str x.s.b.f.b 689), (.str x.s.a.a.b 690), (.int 186 0), (.int 1 0), (.int 0 0), (.int 0 0), (.int 3 0), (.ref 368), (.bool true), (.int 181 0), (.ref 369), .none, (.ref 370), (.ref 371), (.ref 372), (.int 697 0), (.int 186 0), (.str x.s.a.a.b 698)]), #[]⟩
def b1050 (x : X) : Obj := ⟨(.type x.t.a.c.b), none, (.func (fn (st x 40) x.s.b.f.b 3 [] .none .none .none (.str x.s.a.h.g 591) none (.ref 373) .none 0)), #[]⟩
def m621v (p : Program) : Program := { p with main := { p.main with body := [sp p 1, sp p 2, sp p 3, sp p 4, sp p 5, sp p 6, sp p 7, sp p 8, sp p 9, sp p 10, sp p 11, sp p 12, sp p 13, sp p 14, sp p 15, sp p 16, sp p 17, sp p 18, sp p 19, sp p 21, sp p 22, sp p 24, sp p 25, sp p 26, sp p 27, sp p 28, sp p 29, sp p 31, sp p 32, sp p 33, sp p 34, sp p 35, sp p 36, sp p 37, sp p 38, sp p 39, sp p 40] } }
def m628 (x : X) : Heap := ⟨⟨[x.r.a.a.a, x.r.a.a.b, x.r.a.a.c, x.r.a.a.d, x.r.a.a.e, x.r.a.a.f, x.r.a.a.g, x.r.a.a.h, x.r.a.b.a, x.r.a.b.b, x.r.a.b.c, (b625 x), (b626 x), (b627 x), (b628 x)]⟩, ⟨[], [], [], 0, [], [], false, #[], [], 0, false, false, false, 0, [2000, 10, 10], false, 0, true, [], [], 0, false⟩⟩
def m629 (x : X) : W.BT := (N x.r.a.a.a (N x.r.a.a.b (N x.r.a.a.d (L x.r.a.a.h) (L (b625 x))) (N x.r.a.a.f (L x.r.a.b.b) (L (b627 x)))) (N x.r.a.a.c (N x.r.a.a.e (L x.r.a.b.a) (L (b626 x))) (N x.r.a.a.g (L x.r.a.b.c) (L (b628 x)))))
def m631s (p : Program) : List Stmt := [sp p 0, sp p 1]
def m645 (x : X) : W.BT := (N x.r.a.a.a (N x.r.a.a.b (N (b631 x) (N x.r.a.a.h (L (b633 x)) (L (b641 x))) (N (b625 x) (L (b637 x)) (L (b645 x)))) (N x.r.a.a.f (N x.r.a.b.b (L (b635 x)) (L (b643 x))) (N (b627 x) (L (b639 x)) z))) (N x.r.a.a.c (N x.r.a.a.e (N x.r.a.b.a (L (b634 x)) (L (b642 x))) (N (b632 x) (L (b638 x)) z)) (N x.r.a.a.g (N x.r.a.b.c (L (b636 x)) (L (b644 x))) (N (b628 x) (L (b640 x)) z))))
def m646s (p : Program) : List Stmt := [sp p 2]
def m660 (x : X) : W.BT := (N x.r.a.a.a (N x.r.a.a.b (N (b646 x) (N x.r.a.a.h (N (b633 x) (L (b652 x)) z) (N (b641 x) (L (b660 x)) z)) (N (b625 x) (N (b637 x) (L (b656 x)) z) (L (b645 x)))) (N x.r.a.a.f (N x.r.a.b.b (N (b635 x) (L (b654 x)) z) (L (b643 x))) (N (b627 x) (N (b639 x) (L (b658 x)) z) (L (b650 x))))) (N x.r.a.a.c (N x.r.a.a.e (N x.r.a.b.a (N (b634 x) (L (b653 x)) z) (L (b648 x))) (N (b647 x) (N (b638 x) (L (b657 x)) z) (L (b649 x)))) (N x.r.a.a.g (N x.r.a.b.c (N (b636 x) (L (b655 x)) z) (L (b644 x))) (N (b628 x) (N (b640 x) (L (b659 x)) z) (L (b651 x))))))
def m661s (p : Program) : List Stmt := [sp p 3]
def m675 (x : X) : W.BT := (N x.r.a.a.a (N x.r.a.a.b (N (b661 x) (N x.r.a.a.h (N (b633 x) (L (b652 x)) (L (b671 x))) (N (b641 x) (L (b660 x)) z)) (N (b625 x) (N (b637 x) (L (b656 x)) (L (b675 x))) (N (b645 x) (L (b667 x)) z))) (N x.r.a.a.f (N x.r.a.b.b (N (b635 x) (L (b654 x)) (L (b673 x))) (N (b643 x) (L (b665 x)) z)) (N (b627 x) (N (b639 x) (L (b658 x)) z) (N (b650 x) (L (b669 x)) z)))) (N x.r.a.a.c (N x.r.a.a.e (N x.r.a.b.a (N (b634 x) (L (b653 x)) (L (b672 x))) (N (b663 x) (L (b664 x)) z)) (N (b662 x) (N (b638 x) (L (b657 x)) z) (N (b649 x) (L (b668 x)) z))) (N x.r.a.a.g (N x.r.a.b.c (N (b636 x) (L (b655 x)) (L (b674 x))) (N (b644 x) (L (b666 x)) z)) (N (b628 x) (N (b640 x) (L (b659 x)) z) (N (b651 x) (L (b670 x)) z)))))
def m676s (p : Program) : List Stmt := [sp p 4]
def m690 (x : X) : W.BT := (N x.r.a.a.a (N x.r.a.a.b (N (b676 x) (N x.r.a.a.h (N (b633 x) (N (b652 x) (L (b690 x)) z) (L (b671 x))) (N (b641 x) (L (b660 x)) (L (b682 x)))) (N (b625 x) (N (b637 x) (L (b656 x)) (L (b675 x))) (N (b645 x) (L (b667 x)) (L (b686 x))))) (N x.r.a.a.f (N x.r.a.b.b (N (b635 x) (L (b654 x)) (L (b673 x))) (N (b643 x) (L (b665 x)) (L (b684 x)))) (N (b627 x) (N (b639 x) (L (b658 x)) (L (b680 x))) (N (b650 x) (L (b669 x)) (L (b688 x)))))) (N x.r.a.a.c (N x.r.a.a.e (N x.r.a.b.a (N (b634 x) (L (b653 x)) (L (b672 x))) (N (b678 x) (L (b664 x)) (L (b683 x)))) (N (b677 x) (N (b638 x) (L (b657 x)) (L (b679 x))) (N (b649 x) (L (b668 x)) (L (b687 x))))) (N x.r.a.a.g (N x.r.a.b.c (N (b636 x) (L (b655 x)) (L (b674 x))) (N (b644 x) (L (b666 x)) (L (b685 x)))) (N (b628 x) (N (b640 x) (L (b659 x)) (L (b681 x))) (N (b651 x) (L (b670 x)) (L (b689 x)))))))
def m691s (p : Program) : List Stmt := [sp p 5]
def m705 (x : X) : W.BT := (N x.r.a.a.a (N x.r.a.a.b (N (b691 x) (N x.r.a.a.h (N (b633 x) (N (b652 x) (L (b690 x)) z) (L (b671 x))) (N (b641 x) (N (b660 x) (L (b701 x)) z) (L (b682 x)))) (N (b625 x) (N (b637 x) (N (b656 x) (L (b697 x)) z) (L (b675 x))) (N (b645 x) (N (b667 x) (L (b705 x)) z) (L (b686 x))))) (N x.r.a.a.f (N x.r.a.b.b (N (b635 x) (N (b654 x) (L (b695 x)) z) (L (b673 x))) (N (b643 x) (N (b665 x) (L (b703 x)) z) (L (b684 x)))) (N (b627 x) (N (b639 x) (N (b658 x) (L (b699 x)) z) (L (b680 x))) (N (b650 x) (L (b669 x)) (L (b688 x)))))) (N x.r.a.a.c (N x.r.a.a.e (N x.r.a.b.a (N (b634 x) (N (b653 x) (L (b694 x)) z) (L (b672 x))) (N (b693 x) (N (b664 x) (L (b702 x)) z) (L (b683 x)))) (N (b692 x) (N (b638 x) (N (b657 x) (L (b698 x)) z) (L (b679 x))) (N (b649 x) (L (b668 x)) (L (b687 x))))) (N x.r.a.a.g (N x.r.a.b.c (N (b636 x) (N (b655 x) (L (b696 x)) z) (L (b674 x))) (N (b644 x) (N (b666 x) (L (b704 x)) z) (L (b685 x)))) (N (b628 x) (N (b640 x) (N (b659 x) (L (b700 x)) z) (L (b681 x))) (N (b651 x) (L (b670 x)) (L (b689 x)))))))
def m706s (p : Program) : List Stmt := [sp p 6]
def m720 (x : X) : W.BT := (N x.r.a.a.a (N x.r.a.a.b (N (b706 x) (N x.r.a.a.h (N (b633 x) (N (b652 x) (L (b690 x)) z) (N (b671 x) (L (b712 x)) z)) (N (b641 x) (N (b660 x) (L (b701 x)) z) (N (b682 x) (L (b720 x)) z))) (N (b625 x) (N (b637 x) (N (b656 x) (L (b697 x)) z) (N (b675 x) (L (b716 x)) z)) (N (b645 x) (N (b667 x) (L (b705 x)) z) (L (b686 x))))) (N x.r.a.a.f (N x.r.a.b.b (N (b635 x) (N (b654 x) (L (b695 x)) z) (N (b673 x) (L (b714 x)) z)) (N (b643 x) (N (b665 x) (L (b703 x)) z) (L (b684 x)))) (N (b627 x) (N (b639 x) (N (b658 x) (L (b699 x)) z) (N (b680 x) (L (b718 x)) z)) (N (b650 x) (N (b669 x) (L (b710 x)) z) (L (b688 x)))))) (N x.r.a.a.c (N x.r.a.a.e (N x.r.a.b.a (N (b634 x) (N (b653 x) (L (b694 x)) z) (N (b672 x) (L (b713 x)) z)) (N (b708 x) (N (b664 x) (L (b702 x)) z) (L (b683 x)))) (N (b707 x) (N (b638 x) (N (b657 x) (L (b698 x)) z) (N (b679 x) (L (b717 x)) z)) (N (b649 x) (N (b668 x) (L (b709 x)) z) (L (b687 x))))) (N x.r.a.a.g (N x.r.a.b.c (N (b636 x) (N (b655 x) (L (b696 x)) z) (N (b674 x) (L (b715 x)) z)) (N (b644 x) (N (b666 x) (L (b704 x)) z) (L (b685 x)))) (N (b628 x) (N (b640 x) (N (b659 x) (L (b700 x)) z) (N (b681 x) (L (b719 x)) z)) (N (b651 x) (N (b670 x) (L (b711 x)) z) (L (b689 x)))))))
def m721s (p : Program) : List Stmt := [sp p 7]
def m735 (x : X) : W.BT := (N x.r.a.a.a (N x.r.a.a.b (N (b721 x) (N x.r.a.a.h (N (b633 x) (N (b652 x) (L (b690 x)) (L (b731 x))) (N (b671 x) (L (b712 x)) z)) (N (b641 x) (N (b660 x) (L (b701 x)) z) (N (b682 x) (L (b720 x)) z))) (N (b625 x) (N (b637 x) (N (b656 x) (L (b697 x)) (L (b735 x))) (N (b675 x) (L (b716 x)) z)) (N (b645 x) (N (b667 x) (L (b705 x)) z) (N (b686 x) (L (b727 x)) z)))) (N x.r.a.a.f (N x.r.a.b.b (N (b635 x) (N (b654 x) (L (b695 x)) (L (b733 x))) (N (b673 x) (L (b714 x)) z)) (N (b643 x) (N (b665 x) (L (b703 x)) z) (N (b684 x) (L (b725 x)) z))) (N (b627 x) (N (b639 x) (N (b658 x) (L (b699 x)) z) (N (b680 x) (L (b718 x)) z)) (N (b650 x) (N (b669 x) (L (b710 x)) z) (N (b688 x) (L (b729 x)) z))))) (N x.r.a.a.c (N x.r.a.a.e (N x.r.a.b.a (N (b634 x) (N (b653 x) (L (b694 x)) (L (b732 x))) (N (b672 x) (L (b713 x)) z)) (N (b723 x) (N (b664 x) (L (b702 x)) z) (N (b683 x) (L (b724 x)) z))) (N (b722 x) (N (b638 x) (N (b657 x) (L (b698 x)) z) (N (b679 x) (L (b717 x)) z)) (N (b649 x) (N (b668 x) (L (b709 x)) z) (N (b687 x) (L (b728 x)) z)))) (N x.r.a.a.g (N x.r.a.b.c (N (b636 x) (N (b655 x) (L (b696 x)) (L (b734 x))) (N (b674 x) (L (b715 x)) z)) (N (b644 x) (N (b666 x) (L (b704 x)) z) (N (b685 x) (L (b726 x)) z))) (N (b628 x) (N (b640 x) (N (b659 x) (L (b700 x)) z) (N (b681 x) (L (b719 x)) z)) (N (b651 x) (N (b670 x) (L (b711 x)) z) (N (b689 x) (L (b730 x)) z))))))
def m736s (p : Program) : List Stmt := [sp p 8]
def m750 (x : X) : W.BT := (N x.r.a.a.a (N x.r.a.a.b (N (b736 x) (N x.r.a.a.h (N (b633 x) (N (b652 x) (L (b690 x)) (L (b731 x))) (N (b671 x) (L (b712 x)) (L (b750 x)))) (N (b641 x) (N (b660 x) (L (b701 x)) (L (b742 x))) (N (b682 x) (L (b720 x)) z))) (N (b625 x) (N (b637 x) (N (b656 x) (L (b697 x)) (L (b735 x))) (N (b675 x) (L (b716 x)) z)) (N (b645 x) (N (b667 x) (L (b705 x)) (L (b746 x))) (N (b686 x) (L (b727 x)) z)))) (N x.r.a.a.f (N x.r.a.b.b (N (b635 x) (N (b654 x) (L (b695 x)) (L (b733 x))) (N (b673 x) (L (b714 x)) z)) (N (b643 x) (N (b665 x) (L (b703 x)) (L (b744 x))) (N (b684 x) (L (b725 x)) z))) (N (b627 x) (N (b639 x) (N (b658 x) (L (b699 x)) (L (b740 x))) (N (b680 x) (L (b718 x)) z)) (N (b650 x) (N (b669 x) (L (b710 x)) (L (b748 x))) (N (b688 x) (L (b729 x)) z))))) (N x.r.a.a.c (N x.r.a.a.e (N x.r.a.b.a (N (b634 x) (N (b653 x) (L (b694 x)) (L (b732 x))) (N (b672 x) (L (b713 x)) z)) (N (b738 x) (N (b664 x) (L (b702 x)) (L (b743 x))) (N (b683 x) (L (b724 x)) z))) (N (b737 x) (N (b638 x) (N (b657 x) (L (b698 x)) (L (b739 x))) (N (b679 x) (L (b717 x)) z)) (N (b649 x) (N (b668 x) (L (b709 x)) (L (b747 x))) (N (b687 x) (L (b728 x)) z)))) (N x.r.a.a.g (N x.r.a.b.c (N (b636 x) (N (b655 x) (L (b696 x)) (L (b734 x))) (N (b674 x) (L (b715 x)) z)) (N (b644 x) (N (b666 x) (L (b704 x)) (L (b745 x))) (N (b685 x) (L (b726 x)) z))) (N (b628 x) (N (b640 x) (N (b659 x) (L (b700 x)) (L (b741 x))) (N (b681 x) (L (b719 x)) z)) (N (b651 x) (N (b670 x) (L (b711 x)) (L (b749 x))) (N (b689 x) (L (b730 x)) z))))))
def m751s (p : Program) : List Stmt := [sp p 9]
def m765 (x : X) : W.BT := (N x.r.a.a.a (N x.r.a.a.b (N (b751 x) (N x.r.a.a.h (N (b633 x) (N (b652 x) (L (b690 x)) (L (b731 x))) (N (b671 x) (L (b712 x)) (L (b750 x)))) (N (b641 x) (N (b660 x) (L (b701 x)) (L (b742 x))) (N (b682 x) (L (b720 x)) (L (b761 x))))) (N (b625 x) (N (b637 x) (N (b656 x) (L (b697 x)) (L (b735 x))) (N (b675 x) (L (b716 x)) (L (b757 x)))) (N (b645 x) (N (b667 x) (L (b705 x)) (L (b746 x))) (N (b686 x) (L (b727 x)) (L (b765 x)))))) (N x.r.a.a.f (N x.r.a.b.b (N (b635 x) (N (b654 x) (L (b695 x)) (L (b733 x))) (N (b673 x) (L (b714 x)) (L (b755 x)))) (N (b643 x) (N (b665 x) (L (b703 x)) (L (b744 x))) (N (b684 x) (L (b725 x)) (L (b763 x))))) (N (b627 x) (N (b639 x) (N (b658 x) (L (b699 x)) (L (b740 x))) (N (b680 x) (L (b718 x)) (L (b759 x)))) (N (b650 x) (N (b669 x) (L (b710 x)) (L (b748 x))) (N (b688 x) (L (b729 x)) z))))) (N x.r.a.a.c (N x.r.a.a.e (N x.r.a.b.a (N (b634 x) (N (b653 x) (L (b694 x)) (L (b732 x))) (N (b672 x) (L (b713 x)) (L (b754 x)))) (N (b753 x) (N (b664 x) (L (b702 x)) (L (b743 x))) (N (b683 x) (L (b724 x)) (L (b762 x))))) (N (b752 x) (N (b638 x) (N (b657 x) (L (b698 x)) (L (b739 x))) (N (b679 x) (L (b717 x)) (L (b758 x)))) (N (b649 x) (N (b668 x) (L (b709 x)) (L (b747 x))) (N (b687 x) (L (b728 x)) z)))) (N x.r.a.a.g (N x.r.a.b.c (N (b636 x) (N (b655 x) (L (b696 x)) (L (b734 x))) (N (b674 x) (L (b715 x)) (L (b756 x)))) (N (b644 x) (N (b666 x) (L (b704 x)) (L (b745 x))) (N (b685 x) (L (b726 x)) (L (b764 x))))) (N (b628 x) (N (b640 x) (N (b659 x) (L (b700 x)) (L (b741 x))) (N (b681 x) (L (b719 x)) (L (b760 x)))) (N (b651 x) (N (b670 x) (L (b711 x)) (L (b749 x))) (N (b689 x) (L (b730 x)) z))))))
def m766s (p : Program) : List Stmt := [sp p 10]
def m780 (x : X) : W.BT := (N x.r.a.a.a (N x.r.a.a.b (N (b766 x) (N x.r.a.a.h (N (b633 x) (N (b652 x) (N (b690 x) (L (b772 x)) z) (L (b731 x))) (N (b671 x) (L (b712 x)) (L (b750 x)))) (N (b641 x) (N (b660 x) (N (b701 x) (L (b780 x)) z) (L (b742 x))) (N (b682 x) (L (b720 x)) (L (b761 x))))) (N (b625 x) (N (b637 x) (N (b656 x) (N (b697 x) (L (b776 x)) z) (L (b735 x))) (N (b675 x) (L (b716 x)) (L (b757 x)))) (N (b645 x) (N (b667 x) (L (b705 x)) (L (b746 x))) (N (b686 x) (L (b727 x)) (L (b765 x)))))) (N x.r.a.a.f (N x.r.a.b.b (N (b635 x) (N (b654 x) (N (b695 x) (L (b774 x)) z) (L (b733 x))) (N (b673 x) (L (b714 x)) (L (b755 x)))) (N (b643 x) (N (b665 x) (L (b703 x)) (L (b744 x))) (N (b684 x) (L (b725 x)) (L (b763 x))))) (N (b627 x) (N (b639 x) (N (b658 x) (N (b699 x) (L (b778 x)) z) (L (b740 x))) (N (b680 x) (L (b718 x)) (L (b759 x)))) (N (b650 x) (N (b669 x) (L (b710 x)) (L (b748 x))) (N (b688 x) (L (b729 x)) (L (b770 x))))))) (N x.r.a.a.c (N x.r.a.a.e (N x.r.a.b.a (N (b634 x) (N (b653 x) (N (b694 x) (L (b773 x)) z) (L (b732 x))) (N (b672 x) (L (b713 x)) (L (b754 x)))) (N (b768 x) (N (b664 x) (L (b702 x)) (L (b743 x))) (N (b683 x) (L (b724 x)) (L (b762 x))))) (N (b767 x) (N (b638 x) (N (b657 x) (N (b698 x) (L (b777 x)) z) (L (b739 x))) (N (b679 x) (L (b717 x)) (L (b758 x)))) (N (b649 x) (N (b668 x) (L (b709 x)) (L (b747 x))) (N (b687 x) (L (b728 x)) (L (b769 x)))))) (N x.r.a.a.g (N x.r.a.b.c (N (b636 x) (N (b655 x) (N (b696 x) (L (b775 x)) z) (L (b734 x))) (N (b674 x) (L (b715 x)) (L (b756 x)))) (N (b644 x) (N (b666 x) (L (b704 x)) (L (b745 x))) (N (b685 x) (L (b726 x)) (L (b764 x))))) (N (b628 x) (N (b640 x) (N (b659 x) (N (b700 x) (L (b779 x)) z) (L (b741 x))) (N (b681 x) (L (b719 x)) (L (b760 x)))) (N (b651 x) (N (b670 x) (L (b711 x)) (L (b749 x))) (N (b689 x) (L (b730 x)) (L (b771 x))))))))
def m781s (p : Program) : List Stmt := [sp p 11]
def m795 (x : X) : W.BT := (N x.r.a.a.a (N x.r.a.a.b (N (b781 x) (N x.r.a.a.h (N (b633 x) (N (b652 x) (N (b690 x) (L (b772 x)) z) (L (b731 x))) (N (b671 x) (N (b712 x) (L (b791 x)) z) (L (b750 x)))) (N (b641 x) (N (b660 x) (N (b701 x) (L (b780 x)) z) (L (b742 x))) (N (b682 x) (L (b720 x)) (L (b761 x))))) (N (b625 x) (N (b637 x) (N (b656 x) (N (b697 x) (L (b776 x)) z) (L (b735 x))) (N (b675 x) (N (b716 x) (L (b795 x)) z) (L (b757 x)))) (N (b645 x) (N (b667 x) (N (b705 x) (L (b787 x)) z) (L (b746 x))) (N (b686 x) (L (b727 x)) (L (b765 x)))))) (N x.r.a.a.f (N x.r.a.b.b (N (b635 x) (N (b654 x) (N (b695 x) (L (b774 x)) z) (L (b733 x))) (N (b673 x) (N (b714 x) (L (b793 x)) z) (L (b755 x)))) (N (b643 x) (N (b665 x) (N (b703 x) (L (b785 x)) z) (L (b744 x))) (N (b684 x) (L (b725 x)) (L (b763 x))))) (N (b627 x) (N (b639 x) (N (b658 x) (N (b699 x) (L (b778 x)) z) (L (b740 x))) (N (b680 x) (L (b718 x)) (L (b759 x)))) (N (b650 x) (N (b669 x) (N (b710 x) (L (b789 x)) z) (L (b748 x))) (N (b688 x) (L (b729 x)) (L (b770 x))))))) (N x.r.a.a.c (N x.r.a.a.e (N x.r.a.b.a (N (b634 x) (N (b653 x) (N (b694 x) (L (b773 x)) z) (L (b732 x))) (N (b672 x) (N (b713 x) (L (b792 x)) z) (L (b754 x)))) (N (b783 x) (N (b664 x) (N (b702 x) (L (b784 x)) z) (L (b743 x))) (N (b683 x) (L (b724 x)) (L (b762 x))))) (N (b782 x) (N (b638 x) (N (b657 x) (N (b698 x) (L (b777 x)) z) (L (b739 x))) (N (b679 x) (L (b717 x)) (L (b758 x)))) (N (b649 x) (N (b668 x) (N (b709 x) (L (b788 x)) z) (L (b747 x))) (N (b687 x) (L (b728 x)) (L (b769 x)))))) (N x.r.a.a.g (N x.r.a.b.c (N (b636 x) (N (b655 x) (N (b696 x) (L (b775 x)) z) (L (b734 x))) (N (b674 x) (N (b715 x) (L (b794 x)) z) (L (b756 x)))) (N (b644 x) (N (b666 x) (N (b704 x) (L (b786 x)) z) (L (b745 x))) (N (b685 x) (L (b726 x)) (L (b764 x))))) (N (b628 x) (N (b640 x) (N (b659 x) (N (b700 x) (L (b779 x)) z) (L (b741 x))) (N (b681 x) (L (b719 x)) (L (b760 x)))) (N (b651 x) (N (b670 x) (N (b711 x) (L (b790 x)) z) (L (b749 x))) (N (b689 x) (L (b730 x)) (L (b771 x))))))))
def m796s (p : Program) : List Stmt := [sp p 12]
def m810 (x : X) : W.BT := (N x.r.a.a.a (N x.r.a.a.b (N (b796 x) (N x.r.a.a.h (N (b633 x) (N (b652 x) (N (b690 x) (L (b772 x)) z) (N (b731 x) (L (b810 x)) z)) (N (b671 x) (N (b712 x) (L (b791 x)) z) (L (b750 x)))) (N (b641 x) (N (b660 x) (N (b701 x) (L (b780 x)) z) (L (b742 x))) (N (b682 x) (N (b720 x) (L (b802 x)) z) (L (b761 x))))) (N (b625 x) (N (b637 x) (N (b656 x) (N (b697 x) (L (b776 x)) z) (L (b735 x))) (N (b675 x) (N (b716 x) (L (b795 x)) z) (L (b757 x)))) (N (b645 x) (N (b667 x) (N (b705 x) (L (b787 x)) z) (L (b746 x))) (N (b686 x) (N (b727 x) (L (b806 x)) z) (L (b765 x)))))) (N x.r.a.a.f (N x.r.a.b.b (N (b635 x) (N (b654 x) (N (b695 x) (L (b774 x)) z) (L (b733 x))) (N (b673 x) (N (b714 x) (L (b793 x)) z) (L (b755 x)))) (N (b643 x) (N (b665 x) (N (b703 x) (L (b785 x)) z) (L (b744 x))) (N (b684 x) (N (b725 x) (L (b804 x)) z) (L (b763 x))))) (N (b627 x) (N (b639 x) (N (b658 x) (N (b699 x) (L (b778 x)) z) (L (b740 x))) (N (b680 x) (N (b718 x) (L (b800 x)) z) (L (b759 x)))) (N (b650 x) (N (b669 x) (N (b710 x) (L (b789 x)) z) (L (b748 x))) (N (b688 x) (N (b729 x) (L (b808 x)) z) (L (b770 x))))))) (N x.r.a.a.c (N x.r.a.a.e (N x.r.a.b.a (N (b634 x) (N (b653 x) (N (b694 x) (L (b773 x)) z) (L (b732 x))) (N (b672 x) (N (b713 x) (L (b792 x)) z) (L (b754 x)))) (N (b798 x) (N (b664 x) (N (b702 x) (L (b784 x)) z) (L (b743 x))) (N (b683 x) (N (b724 x) (L (b803 x)) z) (L (b762 x))))) (N (b797 x) (N (b638 x) (N (b657 x) (N (b698 x) (L (b777 x)) z) (L (b739 x))) (N (b679 x) (N (b717 x) (L (b799 x)) z) (L (b758 x)))) (N (b649 x) (N (b668 x) (N (b709 x) (L (b788 x)) z) (L (b747 x))) (N (b687 x) (N (b728 x) (L (b807 x)) z) (L (b769 x)))))) (N x.r.a.a.g (N x.r.a.b.c (N (b636 x) (N (b655 x) (N (b696 x) (L (b775 x)) z) (L (b734 x))) (N (b674 x) (N (b715 x) (L (b794 x)) z) (L (b756 x)))) (N (b644 x) (N (b666 x) (N (b704 x) (L (b786 x)) z) (L (b745 x))) (N (b685 x) (N (b726 x) (L (b805 x)) z) (L (b764 x))))) (N (b628 x) (N (b640 x) (N (b659 x) (N (b700 x) (L (b779 x)) z) (L (b741 x))) (N (b681 x) (N (b719 x) (L (b801 x)) z) (L (b760 x)))) (N (b651 x) (N (b670 x) (N (b711 x) (L (b790 x)) z) (L (b749 x))) (N (b689 x) (N (b730 x) (L (b809 x)) z) (L (b771 x))))))))
def m811s (p : Program) : List Stmt := [sp p 13]
def m825 (x : X) : W.BT := (N x.r.a.a.a (N x.r.a.a.b (N (b811 x) (N x.r.a.a.h (N (b633 x) (N (b652 x) (N (b690 x) (L (b772 x)) z) (N (b731 x) (L (b810 x)) z)) (N (b671 x) (N (b712 x) (L (b791 x)) z) (L (b750 x)))) (N (b641 x) (N (b660 x) (N (b701 x) (L (b780 x)) z) (N (b742 x) (L (b821 x)) z)) (N (b682 x) (N (b720 x) (L (b802 x)) z) (L (b761 x))))) (N (b625 x) (N (b637 x) (N (b656 x) (N (b697 x) (L (b776 x)) z) (N (b735 x) (L (b817 x)) z)) (N (b675 x) (N (b716 x) (L (b795 x)) z) (L (b757 x)))) (N (b645 x) (N (b667 x) (N (b705 x) (L (b787 x)) z) (N (b746 x) (L (b825 x)) z)) (N (b686 x) (N (b727 x) (L (b806 x)) z) (L (b765 x)))))) (N x.r.a.a.f (N x.r.a.b.b (N (b635 x) (N (b654 x) (N (b695 x) (L (b774 x)) z) (N (b733 x) (L (b815 x)) z)) (N (b673 x) (N (b714 x) (L (b793 x)) z) (L (b755 x)))) (N (b643 x) (N (b665 x) (N (b703 x) (L (b785 x)) z) (N (b744 x) (L (b823 x)) z)) (N (b684 x) (N (b725 x) (L (b804 x)) z) (L (b763 x))))) (N (b627 x) (N (b639 x) (N (b658 x) (N (b699 x) (L (b778 x)) z) (N (b740 x) (L (b819 x)) z)) (N (b680 x) (N (b718 x) (L (b800 x)) z) (L (b759 x)))) (N (b650 x) (N (b669 x) (N (b710 x) (L (b789 x)) z) (L (b748 x))) (N (b688 x) (N (b729 x) (L (b808 x)) z) (L (b770 x))))))) (N x.r.a.a.c (N x.r.a.a.e (N x.r.a.b.a (N (b634 x) (N (b653 x) (N (b694 x) (L (b773 x)) z) (N (b732 x) (L (b814 x)) z)) (N (b672 x) (N (b713 x) (L (b792 x)) z) (L (b754 x)))) (N (b813 x) (N (b664 x) (N (b702 x) (L (b784 x)) z) (N (b743 x) (L (b822 x)) z)) (N (b683 x) (N (b724 x) (L (b803 x)) z) (L (b762 x))))) (N (b812 x) (N (b638 x) (N (b657 x) (N (b698 x) (L (b777 x)) z) (N (b739 x) (L (b818 x)) z)) (N (b679 x) (N (b717 x) (L (b799 x)) z) (L (b758 x)))) (N (b649 x) (N (b668 x) (N (b709 x) (L (b788 x)) z) (L (b747 x))) (N (b687 x) (N (b728 x) (L (b807 x)) z) (L (b769 x)))))) (N x.r.a.a.g (N x.r.a.b.c (N (b636 x) (N (b655 x) (N (b696 x) (L (b775 x)) z) (N (b734 x) (L (b816 x)) z)) (N (b674 x) (N (b715 x) (L (b794 x)) z) (L (b756 x)))) (N (b644 x) (N (b666 x) (N (b704 x) (L (b786 x)) z) (N (b745 x) (L (b824 x)) z)) (N (b685 x) (N (b726 x) (L (b805 x)) z) (L (b764 x))))) (N (b628 x) (N (b640 x) (N (b659 x) (N (b700 x) (L (b779 x)) z) (N (b741 x) (L (b820 x)) z)) (N (b681 x) (N (b719 x) (L (b801 x)) z) (L (b760 x)))) (N (b651 x) (N (b670 x) (N (b711 x) (L (b790 x)) z) (L (b749 x))) (N (b689 x) (N (b730 x) (L (b809 x)) z) (L (b771 x))))))))
def m826s (p : Program) : List Stmt := [sp p 14]
def m840 (x : X) : W.BT := (N x.r.a.a.a (N x.r.a.a.b (N (b826 x) (N x.r.a.a.h (N (b633 x) (N (b652 x) (N (b690 x) (L (b772 x)) z) (N (b731 x) (L (b810 x)) z)) (N (b671 x) (N (b712 x) (L (b791 x)) z) (N (b750 x) (L (b832 x)) z))) (N (b641 x) (N (b660 x) (N (b701 x) (L (b780 x)) z) (N (b742 x) (L (b821 x)) z)) (N (b682 x) (N (b720 x) (L (b802 x)) z) (N (b761 x) (L (b840 x)) z)))) (N (b625 x) (N (b637 x) (N (b656 x) (N (b697 x) (L (b776 x)) z) (N (b735 x) (L (b817 x)) z)) (N (b675 x) (N (b716 x) (L (b795 x)) z) (N (b757 x) (L (b836 x)) z))) (N (b645 x) (N (b667 x) (N (b705 x) (L (b787 x)) z) (N (b746 x) (L (b825 x)) z)) (N (b686 x) (N (b727 x) (L (b806 x)) z) (L (b765 x)))))) (N x.r.a.a.f (N x.r.a.b.b (N (b635 x) (N (b654 x) (N (b695 x) (L (b774 x)) z) (N (b733 x) (L (b815 x)) z)) (N (b673 x) (N (b714 x) (L (b793 x)) z) (N (b755 x) (L (b834 x)) z))) (N (b643 x) (N (b665 x) (N (b703 x) (L (b785 x)) z) (N (b744 x) (L (b823 x)) z)) (N (b684 x) (N (b725 x) (L (b804 x)) z) (L (b763 x))))) (N (b627 x) (N (b639 x) (N (b658 x) (N (b699 x) (L (b778 x)) z) (N (b740 x) (L (b819 x)) z)) (N (b680 x) (N (b718 x) (L (b800 x)) z) (N (b759 x) (L (b838 x)) z))) (N (b650 x) (N (b669 x) (N (b710 x) (L (b789 x)) z) (N (b748 x) (L (b830 x)) z)) (N (b688 x) (N (b729 x) (L (b808 x)) z) (L (b770 x))))))) (N x.r.a.a.c (N x.r.a.a.e (N x.r.a.b.a (N (b634 x) (N (b653 x) (N (b694 x) (L (b773 x)) z) (N (b732 x) (L (b814 x)) z)) (N (b672 x) (N (b713 x) (L (b792 x)) z) (N (b754 x) (L (b833 x)) z))) (N (b828 x) (N (b664 x) (N (b702 x) (L (b784 x)) z) (N (b743 x) (L (b822 x)) z)) (N (b683 x) (N (b724 x) (L (b803 x)) z) (L (b762 x))))) (N (b827 x) (N (b638 x) (N (b657 x) (N (b698 x) (L (b777 x)) z) (N (b739 x) (L (b818 x)) z)) (N (b679 x) (N (b717 x) (L (b799 x)) z) (N (b758 x) (L (b837 x)) z))) (N (b649 x) (N (b668 x) (N (b709 x) (L (b788 x)) z) (N (b747 x) (L (b829 x)) z)) (N (b687 x) (N (b728 x) (L (b807 x)) z) (L (b769 x)))))) (N x.r.a.a.g (N x.r.a.b.c (N (b636 x) (N (b655 x) (N (b696 x) (L (b775 x)) z) (N (b734 x) (L (b816 x)) z)) (N (b674 x) (N (b715 x) (L (b794 x)) z) (N (b756 x) (L (b835 x)) z))) (N (b644 x) (N (b666 x) (N (b704 x) (L (b786 x)) z) (N (b745 x) (L (b824 x)) z)) (N (b685 x) (N (b726 x) (L (b805 x)) z) (L (b764 x))))) (N (b628 x) (N (b640 x) (N (b659 x) (N (b700 x) (L (b779 x)) z) (N (b741 x) (L (b820 x)) z)) (N (b681 x) (N (b719 x) (L (b801 x)) z) (N (b760 x) (L (b839 x)) z))) (N (b651 x) (N (b670 x) (N (b711 x) (L (b790 x)) z) (N (b749 x) (L (b831 x)) z)) (N (b689 x) (N (b730 x) (L (b809 x)) z) (L (b771 x))))))))
def m841s (p : Program) : List Stmt := [sp p 15]
def m855 (x : X) : W.BT := (N x.r.a.a.a (N x.r.a.a.b (N (b841 x) (N x.r.a.a.h (N (b633 x) (N (b652 x) (N (b690 x) (L (b772 x)) (L (b851 x))) (N (b731 x) (L (b810 x)) z)) (N (b671 x) (N (b712 x) (L (b791 x)) z) (N (b750 x) (L (b832 x)) z))) (N (b641 x) (N (b660 x) (N (b701 x) (L (b780 x)) z) (N (b742 x) (L (b821 x)) z)) (N (b682 x) (N (b720 x) (L (b802 x)) z) (N (b761 x) (L (b840 x)) z)))) (N (b625 x) (N (b637 x) (N (b656 x) (N (b697 x) (L (b776 x)) (L (b855 x))) (N (b735 x) (L (b817 x)) z)) (N (b675 x) (N (b716 x) (L (b795 x)) z) (N (b757 x) (L (b836 x)) z))) (N (b645 x) (N (b667 x) (N (b705 x) (L (b787 x)) z) (N (b746 x) (L (b825 x)) z)) (N (b686 x) (N (b727 x) (L (b806 x)) z) (N (b765 x) (L (b847 x)) z))))) (N x.r.a.a.f (N x.r.a.b.b (N (b635 x) (N (b654 x) (N (b695 x) (L (b774 x)) (L (b853 x))) (N (b733 x) (L (b815 x)) z)) (N (b673 x) (N (b714 x) (L (b793 x)) z) (N (b755 x) (L (b834 x)) z))) (N (b643 x) (N (b665 x) (N (b703 x) (L (b785 x)) z) (N (b744 x) (L (b823 x)) z)) (N (b684 x) (N (b725 x) (L (b804 x)) z) (N (b763 x) (L (b845 x)) z)))) (N (b627 x) (N (b639 x) (N (b658 x) (N (b699 x) (L (b778 x)) z) (N (b740 x) (L (b819 x)) z)) (N (b680 x) (N (b718 x) (L (b800 x)) z) (N (b759 x) (L (b838 x)) z))) (N (b650 x) (N (b669 x) (N (b710 x) (L (b789 x)) z) (N (b748 x) (L (b830 x)) z)) (N (b688 x) (N (b729 x) (L (b808 x)) z) (N (b770 x) (L (b849 x)) z)))))) (N x.r.a.a.c (N x.r.a.a.e (N x.r.a.b.a (N (b634 x) (N (b653 x) (N (b694 x) (L (b773 x)) (L (b852 x))) (N (b732 x) (L (b814 x)) z)) (N (b672 x) (N (b713 x) (L (b792 x)) z) (N (b754 x) (L (b833 x)) z))) (N (b843 x) (N (b664 x) (N (b702 x) (L (b784 x)) z) (N (b743 x) (L (b822 x)) z)) (N (b683 x) (N (b724 x) (L (b803 x)) z) (N (b762 x) (L (b844 x)) z)))) (N (b842 x) (N (b638 x) (N (b657 x) (N (b698 x) (L (b777 x)) z) (N (b739 x) (L (b818 x)) z)) (N (b679 x) (N (b717 x) (L (b799 x)) z) (N (b758 x) (L (b837 x)) z))) (N (b649 x) (N (b668 x) (N (b709 x) (L (b788 x)) z) (N (b747 x) (L (b829 x)) z)) (N (b687 x) (N (b728 x) (L (b807 x)) z) (N (b769 x) (L (b848 x)) z))))) (N x.r.a.a.g (N x.r.a.b.c (N (b636 x) (N (b655 x) (N (b696 x) (L (b775 x)) (L (b854 x))) (N (b734 x) (L (b816 x)) z)) (N (b674 x) (N (b715 x) (L (b794 x)) z) (N (b756 x) (L (b835 x)) z))) (N (b644 x) (N (b666 x) (N (b704 x) (L (b786 x)) z) (N (b745 x) (L (b824 x)) z)) (N (b685 x) (N (b726 x) (L (b805 x)) z) (N (b764 x) (L (b846 x)) z)))) (N (b628 x) (N (b640 x) (N (b659 x) (N (b700 x) (L (b779 x)) z) (N (b741 x) (L (b820 x)) z)) (N (b681 x) (N (b719 x) (L (b801 x)) z) (N (b760 x) (L (b839 x)) z))) (N (b651 x) (N (b670 x) (N (b711 x) (L (b790 x)) z) (N (b749 x) (L (b831 x)) z)) (N (b689 x) (N (b730 x) (L (b809 x)) z) (N (b771 x) (L (b850 x)) z)))))))
def m856s (p : Program) : List Stmt := [sp p 16]
def m877 (x : X) : W.BT := (N x.r.a.a.a (N x.r.a.a.b (N (b856 x) (N x.r.a.a.h (N (b633 x) (N (b652 x) (N (b690 x) (L (b772 x)) (L (b851 x))) (N (b731 x) (L (b810 x)) z)) (N (b671 x) (N (b712 x) (L (b791 x)) (L (b870 x))) (N (b750 x) (L (b832 x)) z))) (N (b641 x) (N (b660 x) (N (b701 x) (L (b780 x)) (L (b862 x))) (N (b742 x) (L (b821 x)) z)) (N (b682 x) (N (b720 x) (L (b802 x)) z) (N (b761 x) (L (b840 x)) z)))) (N (b625 x) (N (b637 x) (N (b656 x) (N (b697 x) (L (b776 x)) (L (b855 x))) (N (b735 x) (L (b817 x)) z)) (N (b675 x) (N (b716 x) (L (b795 x)) (L (b874 x))) (N (b757 x) (L (b836 x)) z))) (N (b645 x) (N (b667 x) (N (b705 x) (L (b787 x)) (L (b866 x))) (N (b746 x) (L (b825 x)) z)) (N (b686 x) (N (b727 x) (L (b806 x)) z) (N (b765 x) (L (b847 x)) z))))) (N x.r.a.a.f (N x.r.a.b.b (N (b635 x) (N (b654 x) (N (b695 x) (L (b774 x)) (L (b853 x))) (N (b733 x) (L (b815 x)) z)) (N (b673 x) (N (b714 x) (L (b793 x)) (L (b872 x))) (N (b755 x) (L (b834 x)) z))) (N (b643 x) (N (b665 x) (N (b703 x) (L (b785 x)) (L (b864 x))) (N (b744 x) (L (b823 x)) z)) (N (b684 x) (N (b725 x) (L (b804 x)) z) (N (b763 x) (L (b845 x)) z)))) (N (b627 x) (N (b639 x) (N (b658 x) (N (b699 x) (L (b778 x)) (L (b860 x))) (N (b740 x) (L (b819 x)) z)) (N (b680 x) (N (b718 x) (L (b800 x)) (L (b876 x))) (N (b759 x) (L (b838 x)) z))) (N (b650 x) (N (b669 x) (N (b710 x) (L (b789 x)) (L (b868 x))) (N (b748 x) (L (b830 x)) z)) (N (b688 x) (N (b729 x) (L (b808 x)) z) (N (b770 x) (L (b849 x)) z)))))) (N x.r.a.a.c (N x.r.a.a.e (N x.r.a.b.a (N (b634 x) (N (b653 x) (N (b694 x) (L (b773 x)) (L (b852 x))) (N (b732 x) (L (b814 x)) z)) (N (b672 x) (N (b713 x) (L (b792 x)) (L (b871 x))) (N (b754 x) (L (b833 x)) z))) (N (b858 x) (N (b664 x) (N (b702 x) (L (b784 x)) (L (b863 x))) (N (b743 x) (L (b822 x)) z)) (N (b683 x) (N (b724 x) (L (b803 x)) z) (N (b762 x) (L (b844 x)) z)))) (N (b857 x) (N (b638 x) (N (b657 x) (N (b698 x) (L (b777 x)) (L (b859 x))) (N (b739 x) (L (b818 x)) z)) (N (b679 x) (N (b717 x) (L (b799 x)) (L (b875 x))) (N (b758 x) (L (b837 x)) z))) (N (b649 x) (N (b668 x) (N (b709 x) (L (b788 x)) (L (b867 x))) (N (b747 x) (L (b829 x)) z)) (N (b687 x) (N (b728 x) (L (b807 x)) z) (N (b769 x) (L (b848 x)) z))))) (N x.r.a.a.g (N x.r.a.b.c (N (b636 x) (N (b655 x) (N (b696 x) (L (b775 x)) (L (b854 x))) (N (b734 x) (L (b816 x)) z)) (N (b674 x) (N (b715 x) (L (b794 x)) (L (b873 x))) (N (b756 x) (L (b835 x)) z))) (N (b644 x) (N (b666 x) (N (b704 x) (L (b786 x)) (L (b865 x))) (N (b745 x) (L (b824 x)) z)) (N (b685 x) (N (b726 x) (L (b805 x)) z) (N (b764 x) (L (b846 x)) z)))) (N (b628 x) (N (b640 x) (N (b659 x) (N (b700 x) (L (b779 x)) (L (b861 x))) (N (b741 x) (L (b820 x)) z)) (N (b681 x) (N (b719 x) (L (b801 x)) (L (b877 x))) (N (b760 x) (L (b839 x)) z))) (N (b651 x) (N (b670 x) (N (b711 x) (L (b790 x)) (L (b869 x))) (N (b749 x) (L (b831 x)) z)) (N (b689 x) (N (b730 x) (L (b809 x)) z) (N (b771 x) (L (b850 x)) z)))))))
def m878s (p : Program) : List Stmt := [sp p 17]
def m899 (x : X) : W.BT := (N x.r.a.a.a (N x.r.a.a.b (N (b878 x) (N x.r.a.a.h (N (b633 x) (N (b652 x) (N (b690 x) (L (b772 x)) (L (b851 x))) (N (b731 x) (L (b810 x)) (L (b889 x)))) (N (b671 x) (N (b712 x) (L (b791 x)) (L (b870 x))) (N (b750 x) (L (b832 x)) z))) (N (b641 x) (N (b660 x) (N (b701 x) (L (b780 x)) (L (b862 x))) (N (b742 x) (L (b821 x)) (L (b897 x)))) (N (b682 x) (N (b720 x) (L (b802 x)) (L (b881 x))) (N (b761 x) (L (b840 x)) z)))) (N (b625 x) (N (b637 x) (N (b656 x) (N (b697 x) (L (b776 x)) (L (b855 x))) (N (b735 x) (L (b817 x)) (L (b893 x)))) (N (b675 x) (N (b716 x) (L (b795 x)) (L (b874 x))) (N (b757 x) (L (b836 x)) z))) (N (b645 x) (N (b667 x) (N (b705 x) (L (b787 x)) (L (b866 x))) (N (b746 x) (L (b825 x)) z)) (N (b686 x) (N (b727 x) (L (b806 x)) (L (b885 x))) (N (b765 x) (L (b847 x)) z))))) (N x.r.a.a.f (N x.r.a.b.b (N (b635 x) (N (b654 x) (N (b695 x) (L (b774 x)) (L (b853 x))) (N (b733 x) (L (b815 x)) (L (b891 x)))) (N (b673 x) (N (b714 x) (L (b793 x)) (L (b872 x))) (N (b755 x) (L (b834 x)) z))) (N (b643 x) (N (b665 x) (N (b703 x) (L (b785 x)) (L (b864 x))) (N (b744 x) (L (b823 x)) (L (b899 x)))) (N (b684 x) (N (b725 x) (L (b804 x)) (L (b883 x))) (N (b763 x) (L (b845 x)) z)))) (N (b627 x) (N (b639 x) (N (b658 x) (N (b699 x) (L (b778 x)) (L (b860 x))) (N (b740 x) (L (b819 x)) (L (b895 x)))) (N (b680 x) (N (b718 x) (L (b800 x)) (L (b876 x))) (N (b759 x) (L (b838 x)) z))) (N (b650 x) (N (b669 x) (N (b710 x) (L (b789 x)) (L (b868 x))) (N (b748 x) (L (b830 x)) z)) (N (b688 x) (N (b729 x) (L (b808 x)) (L (b887 x))) (N (b770 x) (L (b849 x)) z)))))) (N x.r.a.a.c (N x.r.a.a.e (N x.r.a.b.a (N (b634 x) (N (b653 x) (N (b694 x) (L (b773 x)) (L (b852 x))) (N (b732 x) (L (b814 x)) (L (b890 x)))) (N (b672 x) (N (b713 x) (L (b792 x)) (L (b871 x))) (N (b754 x) (L (b833 x)) z))) (N (b880 x) (N (b664 x) (N (b702 x) (L (b784 x)) (L (b863 x))) (N (b743 x) (L (b822 x)) (L (b898 x)))) (N (b683 x) (N (b724 x) (L (b803 x)) (L (b882 x))) (N (b762 x) (L (b844 x)) z)))) (N (b879 x) (N (b638 x) (N (b657 x) (N (b698 x) (L (b777 x)) (L (b859 x))) (N (b739 x) (L (b818 x)) (L (b894 x)))) (N (b679 x) (N (b717 x) (L (b799 x)) (L (b875 x))) (N (b758 x) (L (b837 x)) z))) (N (b649 x) (N (b668 x) (N (b709 x) (L (b788 x)) (L (b867 x))) (N (b747 x) (L (b829 x)) z)) (N (b687 x) (N (b728 x) (L (b807 x)) (L (b886 x))) (N (b769 x) (L (b848 x)) z))))) (N x.r.a.a.g (N x.r.a.b.c (N (b636 x) (N (b655 x) (N (b696 x) (L (b775 x)) (L (b854 x))) (N (b734 x) (L (b816 x)) (L (b892 x)))) (N (b674 x) (N (b715 x) (L (b794 x)) (L (b873 x))) (N (b756 x) (L (b835 x)) z))) (N (b644 x) (N (b666 x) (N (b704 x) (L (b786 x)) (L (b865 x))) (N (b745 x) (L (b824 x)) z)) (N (b685 x) (N (b726 x) (L (b805 x)) (L (b884 x))) (N (b764 x) (L (b846 x)) z)))) (N (b628 x) (N (b640 x) (N (b659 x) (N (b700 x) (L (b779 x)) (L (b861 x))) (N (b741 x) (L (b820 x)) (L (b896 x)))) (N (b681 x) (N (b719 x) (L (b801 x)) (L (b877 x))) (N (b760 x) (L (b839 x)) z))) (N (b651 x) (N (b670 x) (N (b711 x) (L (b790 x)) (L (b869 x))) (N (b749 x) (L (b831 x)) z)) (N (b689 x) (N (b730 x) (L (b809 x)) (L (b888 x))) (N (b771 x) (L (b850 x)) z)))))))
def m900s (p : Program) : List Stmt := [sp p 18]
def m921 (x : X) : W.BT := (N x.r.a.a.a (N x.r.a.a.b (N (b900 x) (N x.r.a.a.h (N (b633 x) (N (b652 x) (N (b690 x) (L (b772 x)) (L (b851 x))) (N (b731 x) (L (b810 x)) (L (b889 x)))) (N (b671 x) (N (b712 x) (L (b791 x)) (L (b870 x))) (N (b750 x) (L (b832 x)) (L (b908 x))))) (N (b641 x) (N (b660 x) (N (b701 x) (L (b780 x)) (L (b862 x))) (N (b742 x) (L (b821 x)) (L (b897 x)))) (N (b682 x) (N (b720 x) (L (b802 x)) (L (b881 x))) (N (b761 x) (L (b840 x)) (L (b916 x)))))) (N (b625 x) (N (b637 x) (N (b656 x) (N (b697 x) (L (b776 x)) (L (b855 x))) (N (b735 x) (L (b817 x)) (L (b893 x)))) (N (b675 x) (N (b716 x) (L (b795 x)) (L (b874 x))) (N (b757 x) (L (b836 x)) (L (b912 x))))) (N (b645 x) (N (b667 x) (N (b705 x) (L (b787 x)) (L (b866 x))) (N (b746 x) (L (b825 x)) (L (b904 x)))) (N (b686 x) (N (b727 x) (L (b806 x)) (L (b885 x))) (N (b765 x) (L (b847 x)) (L (b920 x))))))) (N x.r.a.a.f (N x.r.a.b.b (N (b635 x) (N (b654 x) (N (b695 x) (L (b774 x)) (L (b853 x))) (N (b733 x) (L (b815 x)) (L (b891 x)))) (N (b673 x) (N (b714 x) (L (b793 x)) (L (b872 x))) (N (b755 x) (L (b834 x)) (L (b910 x))))) (N (b643 x) (N (b665 x) (N (b703 x) (L (b785 x)) (L (b864 x))) (N (b744 x) (L (b823 x)) (L (b899 x)))) (N (b684 x) (N (b725 x) (L (b804 x)) (L (b883 x))) (N (b763 x) (L (b845 x)) (L (b918 x)))))) (N (b627 x) (N (b639 x) (N (b658 x) (N (b699 x) (L (b778 x)) (L (b860 x))) (N (b740 x) (L (b819 x)) (L (b895 x)))) (N (b680 x) (N (b718 x) (L (b800 x)) (L (b876 x))) (N (b759 x) (L (b838 x)) (L (b914 x))))) (N (b650 x) (N (b669 x) (N (b710 x) (L (b789 x)) (L (b868 x))) (N (b748 x) (L (b830 x)) (L (b906 x)))) (N (b688 x) (N (b729 x) (L (b808 x)) (L (b887 x))) (N (b770 x) (L (b849 x)) z)))))) (N x.r.a.a.c (N x.r.a.a.e (N x.r.a.b.a (N (b634 x) (N (b653 x) (N (b694 x) (L (b773 x)) (L (b852 x))) (N (b732 x) (L (b814 x)) (L (b890 x)))) (N (b672 x) (N (b713 x) (L (b792 x)) (L (b871 x))) (N (b754 x) (L (b833 x)) (L (b909 x))))) (N (b902 x) (N (b664 x) (N (b702 x) (L (b784 x)) (L (b863 x))) (N (b743 x) (L (b822 x)) (L (b898 x)))) (N (b683 x) (N (b724 x) (L (b803 x)) (L (b882 x))) (N (b762 x) (L (b844 x)) (L (b917 x)))))) (N (b901 x) (N (b638 x) (N (b657 x) (N (b698 x) (L (b777 x)) (L (b859 x))) (N (b739 x) (L (b818 x)) (L (b894 x)))) (N (b679 x) (N (b717 x) (L (b799 x)) (L (b875 x))) (N (b758 x) (L (b837 x)) (L (b913 x))))) (N (b649 x) (N (b668 x) (N (b709 x) (L (b788 x)) (L (b867 x))) (N (b747 x) (L (b829 x)) (L (b905 x)))) (N (b687 x) (N (b728 x) (L (b807 x)) (L (b886 x))) (N (b769 x) (L (b848 x)) (L (b921 x))))))) (N x.r.a.a.g (N x.r.a.b.c (N (b636 x) (N (b655 x) (N (b696 x) (L (b775 x)) (L (b854 x))) (N (b734 x) (L (b816 x)) (L (b892 x)))) (N (b674 x) (N (b715 x) (L (b794 x)) (L (b873 x))) (N (b756 x) (L (b835 x)) (L (b911 x))))) (N (b644 x) (N (b666 x) (N (b704 x) (L (b786 x)) (L (b865 x))) (N (b745 x) (L (b824 x)) (L (b903 x)))) (N (b685 x) (N (b726 x) (L (b805 x)) (L (b884 x))) (N (b764 x) (L (b846 x)) (L (b919 x)))))) (N (b628 x) (N (b640 x) (N (b659 x) (N (b700 x) (L (b779 x)) (L (b861 x))) (N (b741 x) (L (b820 x)) (L (b896 x)))) (N (b681 x) (N (b719 x) (L (b801 x)) (L (b877 x))) (N (b760 x) (L (b839 x)) (L (b915 x))))) (N (b651 x) (N (b670 x) (N (b711 x) (L (b790 x)) (L (b869 x))) (N (b749 x) (L (b831 x)) (L (b907 x)))) (N (b689 x) (N (b730 x) (L (b809 x)) (L (b888 x))) (N (b771 x) (L (b850 x)) z)))))))
def m922s (p : Program) : List Stmt := [sp p 19, sp p 20, sp p 21, sp p 22, sp p 23, sp p 24, sp p 25, sp p 26, sp p 27]
def m964 (x : X) : W.BT := (N x.r.a.a.a (N x.r.a.a.b (N (b922 x) (N x.r.a.a.h (N (b633 x) (N (b652 x) (N (b690 x) (N (b772 x) (L (b927 x)) z) (L (b851 x))) (N (b731 x) (N (b810 x) (L (b959 x)) z) (L (b889 x)))) (N (b671 x) (N (b712 x) (N (b791 x) (L (b943 x)) z) (L (b870 x))) (N (b750 x) (L (b832 x)) (L (b908 x))))) (N (b641 x) (N (b660 x) (N (b701 x) (N (b780 x) (L (b935 x)) z) (L (b862 x))) (N (b742 x) (L (b821 x)) (L (b897 x)))) (N (b682 x) (N (b720 x) (N (b802 x) (L (b951 x)) z) (L (b881 x))) (N (b761 x) (L (b840 x)) (L (b916 x)))))) (N (b625 x) (N (b637 x) (N (b656 x) (N (b697 x) (N (b776 x) (L (b931 x)) z) (L (b855 x))) (N (b735 x) (N (b817 x) (L (b963 x)) z) (L (b893 x)))) (N (b675 x) (N (b716 x) (N (b795 x) (L (b947 x)) z) (L (b874 x))) (N (b757 x) (L (b836 x)) (L (b912 x))))) (N (b645 x) (N (b667 x) (N (b705 x) (N (b787 x) (L (b939 x)) z) (L (b866 x))) (N (b746 x) (L (b825 x)) (L (b904 x)))) (N (b686 x) (N (b727 x) (N (b806 x) (L (b955 x)) z) (L (b885 x))) (N (b765 x) (L (b847 x)) (L (b920 x))))))) (N x.r.a.a.f (N x.r.a.b.b (N (b635 x) (N (b654 x) (N (b695 x) (N (b774 x) (L (b929 x)) z) (L (b853 x))) (N (b733 x) (N (b815 x) (L (b961 x)) z) (L (b891 x)))) (N (b673 x) (N (b714 x) (N (b793 x) (L (b945 x)) z) (L (b872 x))) (N (b755 x) (L (b834 x)) (L (b910 x))))) (N (b643 x) (N (b665 x) (N (b703 x) (N (b785 x) (L (b937 x)) z) (L (b864 x))) (N (b744 x) (L (b823 x)) (L (b899 x)))) (N (b684 x) (N (b725 x) (N (b804 x) (L (b953 x)) z) (L (b883 x))) (N (b763 x) (L (b845 x)) (L (b918 x)))))) (N (b627 x) (N (b639 x) (N (b658 x) (N (b699 x) (N (b778 x) (L (b933 x)) z) (L (b860 x))) (N (b740 x) (L (b819 x)) (L (b895 x)))) (N (b680 x) (N (b718 x) (N (b800 x) (L (b949 x)) z) (L (b876 x))) (N (b759 x) (L (b838 x)) (L (b914 x))))) (N (b650 x) (N (b669 x) (N (b710 x) (N (b789 x) (L (b941 x)) z) (L (b868 x))) (N (b748 x) (L (b830 x)) (L (b906 x)))) (N (b688 x) (N (b729 x) (N (b808 x) (L (b957 x)) z) (L (b887 x))) (N (b770 x) (L (b849 x)) (L (b925 x)))))))) (N x.r.a.a.c (N x.r.a.a.e (N x.r.a.b.a (N (b634 x) (N (b653 x) (N (b694 x) (N (b773 x) (L (b928 x)) z) (L (b852 x))) (N (b732 x) (N (b814 x) (L (b960 x)) z) (L (b890 x)))) (N (b672 x) (N (b713 x) (N (b792 x) (L (b944 x)) z) (L (b871 x))) (N (b754 x) (L (b833 x)) (L (b909 x))))) (N (b924 x) (N (b664 x) (N (b702 x) (N (b784 x) (L (b936 x)) z) (L (b863 x))) (N (b743 x) (L (b822 x)) (L (b898 x)))) (N (b683 x) (N (b724 x) (N (b803 x) (L (b952 x)) z) (L (b882 x))) (N (b762 x) (L (b844 x)) (L (b917 x)))))) (N (b923 x) (N (b638 x) (N (b657 x) (N (b698 x) (N (b777 x) (L (b932 x)) z) (L (b859 x))) (N (b739 x) (N (b818 x) (L (b964 x)) z) (L (b894 x)))) (N (b679 x) (N (b717 x) (N (b799 x) (L (b948 x)) z) (L (b875 x))) (N (b758 x) (L (b837 x)) (L (b913 x))))) (N (b649 x) (N (b668 x) (N (b709 x) (N (b788 x) (L (b940 x)) z) (L (b867 x))) (N (b747 x) (L (b829 x)) (L (b905 x)))) (N (b687 x) (N (b728 x) (N (b807 x) (L (b956 x)) z) (L (b886 x))) (N (b769 x) (L (b848 x)) (L (b921 x))))))) (N x.r.a.a.g (N x.r.a.b.c (N (b636 x) (N (b655 x) (N (b696 x) (N (b775 x) (L (b930 x)) z) (L (b854 x))) (N (b734 x) (N (b816 x) (L (b962 x)) z) (L (b892 x)))) (N (b674 x) (N (b715 x) (N (b794 x) (L (b946 x)) z) (L (b873 x))) (N (b756 x) (L (b835 x)) (L (b911 x))))) (N (b644 x) (N (b666 x) (N (b704 x) (N (b786 x) (L (b938 x)) z) (L (b865 x))) (N (b745 x) (L (b824 x)) (L (b903 x)))) (N (b685 x) (N (b726 x) (N (b805 x) (L (b954 x)) z) (L (b884 x))) (N (b764 x) (L (b846 x)) (L (b919 x)))))) (N (b628 x) (N (b640 x) (N (b659 x) (N (b700 x) (N (b779 x) (L (b934 x)) z) (L (b861 x))) (N (b741 x) (L (b820 x)) (L (b896 x)))) (N (b681 x) (N (b719 x) (N (b801 x) (L (b950 x)) z) (L (b877 x))) (N (b760 x) (L (b839 x)) (L (b915 x))))) (N (b651 x) (N (b670 x) (N (b711 x) (N (b790 x) (L (b942 x)) z) (L (b869 x))) (N (b749 x) (L (b831 x)) (L (b907 x)))) (N (b689 x) (N (b730 x) (N (b809 x) (L (b958 x)) z) (L (b888 x))) (N (b771 x) (L (b850 x)) (L (b926 x)))))))))
def m965s (p : Program) : List Stmt := [sp p 28, sp p 29, sp p 30, sp p 31, sp p 32, sp p 33, sp p 34, sp p 35, sp p 36, sp p 37, sp p 38, sp p 39]
def m1041 (x : X) : W.BT := (N x.r.a.a.a (N x.r.a.a.b (N (b965 x) (N x.r.a.a.h (N (b633 x) (N (b652 x) (N (b690 x) (N (b772 x) (L (b927 x)) z) (N (b851 x) (L (b993 x)) z)) (N (b731 x) (N (b810 x) (L (b959 x)) z) (N (b889 x) (L (b1025 x)) z))) (N (b671 x) (N (b712 x) (N (b791 x) (L (b943 x)) z) (N (b870 x) (L (b1009 x)) z)) (N (b750 x) (N (b832 x) (L (b977 x)) z) (N (b908 x) (L (b1041 x)) z)))) (N (b641 x) (N (b660 x) (N (b701 x) (N (b780 x) (L (b935 x)) z) (N (b862 x) (L (b1001 x)) z)) (N (b742 x) (N (b821 x) (L (b969 x)) z) (N (b897 x) (L (b1033 x)) z))) (N (b682 x) (N (b720 x) (N (b802 x) (L (b951 x)) z) (N (b881 x) (L (b1017 x)) z)) (N (b761 x) (N (b840 x) (L (b985 x)) z) (L (b916 x)))))) (N (b625 x) (N (b637 x) (N (b656 x) (N (b697 x) (N (b776 x) (L (b931 x)) z) (N (b855 x) (L (b997 x)) z)) (N (b735 x) (N (b817 x) (L (b963 x)) z) (N (b893 x) (L (b1029 x)) z))) (N (b675 x) (N (b716 x) (N (b795 x) (L (b947 x)) z) (N (b874 x) (L (b1013 x)) z)) (N (b757 x) (N (b836 x) (L (b981 x)) z) (L (b912 x))))) (N (b645 x) (N (b667 x) (N (b705 x) (N (b787 x) (L (b939 x)) z) (N (b866 x) (L (b1005 x)) z)) (N (b746 x) (N (b825 x) (L (b973 x)) z) (N (b904 x) (L (b1037 x)) z))) (N (b686 x) (N (b727 x) (N (b806 x) (L (b955 x)) z) (N (b885 x) (L (b1021 x)) z)) (N (b765 x) (N (b847 x) (L (b989 x)) z) (L (b920 x))))))) (N x.r.a.a.f (N x.r.a.b.b (N (b635 x) (N (b654 x) (N (b695 x) (N (b774 x) (L (b929 x)) z) (N (b853 x) (L (b995 x)) z)) (N (b733 x) (N (b815 x) (L (b961 x)) z) (N (b891 x) (L (b1027 x)) z))) (N (b673 x) (N (b714 x) (N (b793 x) (L (b945 x)) z) (N (b872 x) (L (b1011 x)) z)) (N (b755 x) (N (b834 x) (L (b979 x)) z) (L (b910 x))))) (N (b643 x) (N (b665 x) (N (b703 x) (N (b785 x) (L (b937 x)) z) (N (b864 x) (L (b1003 x)) z)) (N (b744 x) (N (b823 x) (L (b971 x)) z) (N (b899 x) (L (b1035 x)) z))) (N (b684 x) (N (b725 x) (N (b804 x) (L (b953 x)) z) (N (b883 x) (L (b1019 x)) z)) (N (b763 x) (N (b845 x) (L (b987 x)) z) (L (b918 x)))))) (N (b627 x) (N (b639 x) (N (b658 x) (N (b699 x) (N (b778 x) (L (b933 x)) z) (N (b860 x) (L (b999 x)) z)) (N (b740 x) (N (b819 x) (L (b967 x)) z) (N (b895 x) (L (b1031 x)) z))) (N (b680 x) (N (b718 x) (N (b800 x) (L (b949 x)) z) (N (b876 x) (L (b1015 x)) z)) (N (b759 x) (N (b838 x) (L (b983 x)) z) (L (b914 x))))) (N (b650 x) (N (b669 x) (N (b710 x) (N (b789 x) (L (b941 x)) z) (N (b868 x) (L (b1007 x)) z)) (N (b748 x) (N (b830 x) (L (b975 x)) z) (N (b906 x) (L (b1039 x)) z))) (N (b688 x) (N (b729 x) (N (b808 x) (L (b957 x)) z) (N (b887 x) (L (b1023 x)) z)) (N (b770 x) (N (b849 x) (L (b991 x)) z) (L (b925 x)))))))) (N x.r.a.a.c (N x.r.a.a.e (N x.r.a.b.a (N (b634 x) (N (b653 x) (N (b694 x) (N (b773 x) (L (b928 x)) z) (N (b852 x) (L (b994 x)) z)) (N (b732 x) (N (b814 x) (L (b960 x)) z) (N (b890 x) (L (b1026 x)) z))) (N (b672 x) (N (b713 x) (N (b792 x) (L (b944 x)) z) (N (b871 x) (L (b1010 x)) z)) (N (b754 x) (N (b833 x) (L (b978 x)) z) (L (b909 x))))) (N (b924 x) (N (b664 x) (N (b702 x) (N (b784 x) (L (b936 x)) z) (N (b863 x) (L (b1002 x)) z)) (N (b743 x) (N (b822 x) (L (b970 x)) z) (N (b898 x) (L (b1034 x)) z))) (N (b683 x) (N (b724 x) (N (b803 x) (L (b952 x)) z) (N (b882 x) (L (b1018 x)) z)) (N (b762 x) (N (b844 x) (L (b986 x)) z) (L (b917 x)))))) (N (b966 x) (N (b638 x) (N (b657 x) (N (b698 x) (N (b777 x) (L (b932 x)) z) (N (b859 x) (L (b998 x)) z)) (N (b739 x) (N (b818 x) (L (b964 x)) z) (N (b894 x) (L (b1030 x)) z))) (N (b679 x) (N (b717 x) (N (b799 x) (L (b948 x)) z) (N (b875 x) (L (b1014 x)) z)) (N (b758 x) (N (b837 x) (L (b982 x)) z) (L (b913 x))))) (N (b649 x) (N (b668 x) (N (b709 x) (N (b788 x) (L (b940 x)) z) (N (b867 x) (L (b1006 x)) z)) (N (b747 x) (N (b829 x) (L (b974 x)) z) (N (b905 x) (L (b1038 x)) z))) (N (b687 x) (N (b728 x) (N (b807 x) (L (b956 x)) z) (N (b886 x) (L (b1022 x)) z)) (N (b769 x) (N (b848 x) (L (b990 x)) z) (L (b921 x))))))) (N x.r.a.a.g (N x.r.a.b.c (N (b636 x) (N (b655 x) (N (b696 x) (N (b775 x) (L (b930 x)) z) (N (b854 x) (L (b996 x)) z)) (N (b734 x) (N (b816 x) (L (b962 x)) z) (N (b892 x) (L (b1028 x)) z))) (N (b674 x) (N (b715 x) (N (b794 x) (L (b946 x)) z) (N (b873 x) (L (b1012 x)) z)) (N (b756 x) (N (b835 x) (L (b980 x)) z) (L (b911 x))))) (N (b644 x) (N (b666 x) (N (b704 x) (N (b786 x) (L (b938 x)) z) (N (b865 x) (L (b1004 x)) z)) (N (b745 x) (N (b824 x) (L (b972 x)) z) (N (b903 x) (L (b1036 x)) z))) (N (b685 x) (N (b726 x) (N (b805 x) (L (b954 x)) z) (N (b884 x) (L (b1020 x)) z)) (N (b764 x) (N (b846 x) (L (b988 x)) z) (L (b919 x)))))) (N (b628 x) (N (b640 x) (N (b659 x) (N (b700 x) (N (b779 x) (L (b934 x)) z) (N (b861 x) (L (b1000 x)) z)) (N (b741 x) (N (b820 x) (L (b968 x)) z) (N (b896 x) (L (b1032 x)) z))) (N (b681 x) (N (b719 x) (N (b801 x) (L (b950 x)) z) (N (b877 x) (L (b1016 x)) z)) (N (b760 x) (N (b839 x) (L (b984 x)) z) (L (b915 x))))) (N (b651 x) (N (b670 x) (N (b711 x) (N (b790 x) (L (b942 x)) z) (N (b869 x) (L (b1008 x)) z)) (N (b749 x) (N (b831 x) (L (b976 x)) z) (N (b907 x) (L (b1040 x)) z))) (N (b689 x) (N (b730 x) (N (b809 x) (L (b958 x)) z) (N (b888 x) (L (b1024 x)) z)) (N (b771 x) (N (b850 x) (L (b992 x)) z) (L (b926 x)))))))))
def m1042s (p : Program) : List Stmt := [sp p 40]
def m1050 (x : X) : W.BT := (N x.r.a.a.a (N x.r.a.a.b (N (b1042 x) (N x.r.a.a.h (N (b633 x) (N (b652 x) (N (b690 x) (N (b772 x) (L (b927 x)) z) (N (b851 x) (L (b993 x)) z)) (N (b731 x) (N (b810 x) (L (b959 x)) z) (N (b889 x) (L (b1025 x)) z))) (N (b671 x) (N (b712 x) (N (b791 x) (L (b943 x)) z) (N (b870 x) (L (b1009 x)) z)) (N (b750 x) (N (b832 x) (L (b977 x)) z) (N (b908 x) (L (b1041 x)) z)))) (N (b641 x) (N (b660 x) (N (b701 x) (N (b780 x) (L (b935 x)) z) (N (b862 x) (L (b1001 x)) z)) (N (b742 x) (N (b821 x) (L (b969 x)) z) (N (b897 x) (L (b1033 x)) z))) (N (b682 x) (N (b720 x) (N (b802 x) (L (b951 x)) z) (N (b881 x) (L (b1017 x)) z)) (N (b761 x) (N (b840 x) (L (b985 x)) z) (L (b916 x)))))) (N (b625 x) (N (b637 x) (N (b656 x) (N (b697 x) (N (b776 x) (L (b931 x)) z) (N (b855 x) (L (b997 x)) z)) (N (b735 x) (N (b817 x) (L (b963 x)) z) (N (b893 x) (L (b1029 x)) z))) (N (b675 x) (N (b716 x) (N (b795 x) (L (b947 x)) z) (N (b874 x) (L (b1013 x)) z)) (N (b757 x) (N (b836 x) (L (b981 x)) z) (N (b912 x) (L (b1047 x)) z)))) (N (b645 x) (N (b667 x) (N (b705 x) (N (b787 x) (L (b939 x)) z) (N (b866 x) (L (b1005 x)) z)) (N (b746 x) (N (b825 x) (L (b973 x)) z) (N (b904 x) (L (b1037 x)) z))) (N (b686 x) (N (b727 x) (N (b806 x) (L (b955 x)) z) (N (b885 x) (L (b1021 x)) z)) (N (b765 x) (N (b847 x) (L (b989 x)) z) (L (b920 x))))))) (N x.r.a.a.f (N x.r.a.b.b (N (b635 x) (N (b654 x) (N (b695 x) (N (b774 x) (L (b929 x)) z) (N (b853 x) (L (b995 x)) z)) (N (b733 x) (N (b815 x) (L (b961 x)) z) (N (b891 x) (L (b1027 x)) z))) (N (b673 x) (N (b714 x) (N (b793 x) (L (b945 x)) z) (N (b872 x) (L (b1011 x)) z)) (N (b755 x) (N (b834 x) (L (b979 x)) z) (N (b910 x) (L (b1045 x)) z)))) (N (b643 x) (N (b665 x) (N (b703 x) (N (b785 x) (L (b937 x)) z) (N (b864 x) (L (b1003 x)) z)) (N (b744 x) (N (b823 x) (L (b971 x)) z) (N (b899 x) (L (b1035 x)) z))) (N (b684 x) (N (b725 x) (N (b804 x) (L (b953 x)) z) (N (b883 x) (L (b1019 x)) z)) (N (b763 x) (N (b845 x) (L (b987 x)) z) (L (b918 x)))))) (N (b627 x) (N (b639 x) (N (b658 x) (N (b699 x) (N (b778 x) (L (b933 x)) z) (N (b860 x) (L (b999 x)) z)) (N (b740 x) (N (b819 x) (L (b967 x)) z) (N (b895 x) (L (b1031 x)) z))) (N (b680 x) (N (b718 x) (N (b800 x) (L (b949 x)) z) (N (b876 x) (L (b1015 x)) z)) (N (b759 x) (N (b838 x) (L (b983 x)) z) (N (b914 x) (L (b1049 x)) z)))) (N (b650 x) (N (b669 x) (N (b710 x) (N (b789 x) (L (b941 x)) z) (N (b868 x) (L (b1007 x)) z)) (N (b748 x) (N (b830 x) (L (b975 x)) z) (N (b906 x) (L (b1039 x)) z))) (N (b688 x) (N (b729 x) (N (b808 x) (L (b957 x)) z) (N (b887 x) (L (b1023 x)) z)) (N (b770 x) (N (b849 x) (L (b991 x)) z) (L (b925 x)))))))) (N x.r.a.a.c (N x.r.a.a.e (N x.r.a.b.a (N (b634 x) (N (b653 x) (N (b694 x) (N (b773 x) (L (b928 x)) z) (N (b852 x) (L (b994 x)) z)) (N (b732 x) (N (b814 x) (L (b960 x)) z) (N (b890 x) (L (b1026 x)) z))) (N (b672 x) (N (b713 x) (N (b792 x) (L (b944 x)) z) (N (b871 x) (L (b1010 x)) z)) (N (b754 x) (N (b833 x) (L (b978 x)) z) (N (b909 x) (L (b1044 x)) z)))) (N (b924 x) (N (b664 x) (N (b702 x) (N (b784 x) (L (b936 x)) z) (N (b863 x) (L (b1002 x)) z)) (N (b743 x) (N (b822 x) (L (b970 x)) z) (N (b898 x) (L (b1034 x)) z))) (N (b683 x) (N (b724 x) (N (b803 x) (L (b952 x)) z) (N (b882 x) (L (b1018 x)) z)) (N (b762 x) (N (b844 x) (L (b986 x)) z) (L (b917 x)))))) (N (b1043 x) (N (b638 x) (N (b657 x) (N (b698 x) (N (b777 x) (L (b932 x)) z) (N (b859 x) (L (b998 x)) z)) (N (b739 x) (N (b818 x) (L (b964 x)) z) (N (b894 x) (L (b1030 x)) z))) (N (b679 x) (N (b717 x) (N (b799 x) (L (b948 x)) z) (N (b875 x) (L (b1014 x)) z)) (N (b758 x) (N (b837 x) (L (b982 x)) z) (N (b913 x) (L (b1048 x)) z)))) (N (b649 x) (N (b668 x) (N (b709 x) (N (b788 x) (L (b940 x)) z) (N (b867 x) (L (b1006 x)) z)) (N (b747 x) (N (b829 x) (L (b974 x)) z) (N (b905 x) (L (b1038 x)) z))) (N (b687 x) (N (b728 x) (N (b807 x) (L (b956 x)) z) (N (b886 x) (L (b1022 x)) z)) (N (b769 x) (N (b848 x) (L (b990 x)) z) (L (b921 x))))))) (N x.r.a.a.g (N x.r.a.b.c (N (b636 x) (N (b655 x) (N (b696 x) (N (b775 x) (L (b930 x)) z) (N (b854 x) (L (b996 x)) z)) (N (b734 x) (N (b816 x) (L (b962 x)) z) (N (b892 x) (L (b1028 x)) z))) (N (b674 x) (N (b715 x) (N (b794 x) (L (b946 x)) z) (N (b873 x) (L (b1012 x)) z)) (N (b756 x) (N (b835 x) (L (b980 x)) z) (N (b911 x) (L (b1046 x)) z)))) (N (b644 x) (N (b666 x) (N (b704 x) (N (b786 x) (L (b938 x)) z) (N (b865 x) (L (b1004 x)) z)) (N (b745 x) (N (b824 x) (L (b972 x)) z) (N (b903 x) (L (b1036 x)) z))) (N (b685 x) (N (b726 x) (N (b805 x) (L (b954 x)) z) (N (b884 x) (L (b1020 x)) z)) (N (b764 x) (N (b846 x) (L (b988 x)) z) (L (b919 x)))))) (N (b628 x) (N (b640 x) (N (b659 x) (N (b700 x) (N (b779 x) (L (b934 x)) z) (N (b861 x) (L (b1000 x)) z)) (N (b741 x) (N (b820 x) (L (b968 x)) z) (N (b896 x) (L (b1032 x)) z))) (N (b681 x) (N (b719 x) (N (b801 x) (L (b950 x)) z) (N (b877 x) (L (b1016 x)) z)) (N (b760 x) (N (b839 x) (L (b984 x)) z) (N (b915 x) (L (b1050 x)) z)))) (N (b651 x) (N (b670 x) (N (b711 x) (N (b790 x) (L (b942 x)) z) (N (b869 x) (L (b1008 x)) z)) (N (b749 x) (N (b831 x) (L (b976 x)) z) (N (b907 x) (L (b1040 x)) z))) (N (b689 x) (N (b730 x) (N (b809 x) (L (b958 x)) z) (N (b888 x) (L (b1024 x)) z)) (N (b771 x) (N (b850 x) (L (b992 x)) z) (L (b926 x)))))))))
def m1051 (x : X) : Heap := ⟨⟨[x.r.a.a.a, x.r.a.a.b, x.r.a.a.c, (b1042 x), x.r.a.a.e, x.r.a.a.f, x.r.a.a.g, x.r.a.a.h, x.r.a.b.a, x.r.a.b.b, x.r.a.b.c, (b625 x), (b1043 x), (b627 x), (b628 x), (b633 x), (b634 x), (b635 x), (b636 x), (b637 x), (b638 x), (b639 x), (b640 x), (b641 x), (b924 x), (b643 x), (b644 x), (b645 x), (b649 x), (b650 x), (b651 x), (b652 x), (b653 x), (b654 x), (b655 x), (b656 x), (b657 x), (b658 x), (b659 x), (b660 x), (b664 x), (b665 x), (b666 x), (b667 x), (b668 x), (b669 x), (b670 x), (b671 x), (b672 x), (b673 x), (b674 x), (b675 x), (b679 x), (b680 x), (b681 x), (b682 x), (b683 x), (b684 x), (b685 x), (b686 x), (b687 x), (b688 x), (b689 x), (b690 x), (b694 x), (b695 x), (b696 x), (b697 x), (b698 x), (b699 x), (b700 x), (b701 x), (b702 x), (b703 x), (b704 x), (b705 x), (b709 x), (b710 x), (b711 x), (b712 x), (b713 x), (b714 x), (b715 x), (b716 x), (b717 x), (b718 x), (b719 x), (b720 x), (b724 x), (b725 x), (b726 x), (b727 x), (b728 x), (b729 x), (b730 x), (b731 x), (b732 x), (b733 x), (b734 x), (b735 x), (b739 x), (b740 x), (b741 x), (b742 x), (b743 x), (b744 x), (b745 x), (b746 x), (b747 x), (b748 x), (b749 x), (b750 x), (b754 x), (b755 x), (b756 x), (b757 x), (b758 x), (b759 x), (b760 x), (b761 x), (b762 x), (b763 x), (b764 x), (b765 x), (b769 x), (b770 x), (b771 x), (b772 x), (b773 x), (b774 x), (b775 x), (b776 x), (b777 x), (b778 x), (b779 x), (b780 x), (b784 x), (b785 x), (b786 x), (b787 x), (b788 x), (b789 x), (b790 x), (b791 x), (b792 x), (b793 x), (b794 x), (b795 x), (b799 x), (b800 x), (b801 x), (b802 x), (b803 x), (b804 x), (b805 x), (b806 x), (b807 x), (b808 x), (b809 x), (b810 x), (b814 x), (b815 x), (b816 x), (b817 x), (b818 x), (b819 x), (b820 x), (b821 x), (b822 x), (b823 x), (b824 x), (b825 x), (b829 x), (b830 x), (b831 x), (b832 x), (b833 x), (b834 x), (b835 x), (b836 x), (b837 x), (b838 x), (b839 x), (b840 x), (b844 x), (b845 x), (b846 x), (b847 x), (b848 x), (b849 x), (b850 x), (b851 x), (b852 x), (b853 x), (b854 x), (b855 x), (b859 x), (b860 x), (b861 x), (b862 x), (b863 x), (b864 x), (b865 x), (b866 x), (b867 x), (b868 x), (b869 x), (b870 x), (b871 x), (b872 x), (b873 x), (b874 x), (b875 x), (b876 x), (b877 x), (b881 x), (b882 x), (b883 x), (b884 x), (b885 x), (b886 x), (b887 x), (b888 x), (b889 x), (b890 x), (b891 x), (b892 x), (b893 x), (b894 x), (b895 x), (b896 x), (b897 x), (b898 x), (b899 x), (b903 x), (b904 x), (b905 x), (b906 x), (b907 x), (b908 x), (b909 x), (b910 x), (b911 x), (b912 x), (b913 x), (b914 x), (b915 x), (b916 x), (b917 x), (b918 x), (b919 x), (b920 x), (b921 x), (b925 x), (b926 x), (b927 x), (b928 x), (b929 x), (b930 x), (b931 x), (b932 x), (b933 x), (b934 x), (b935 x), (b936 x), (b937 x), (b938 x), (b939 x), (b940 x), (b941 x), (b942 x), (b943 x), (b944 x), (b945 x), (b946 x), (b947 x), (b948 x), (b949 x), (b950 x), (b951 x), (b952 x), (b953 x), (b954 x), (b955 x), (b956 x), (b957 x), (b958 x), (b959 x), (b960 x), (b961 x), (b962 x), (b963 x), (b964 x), (b967 x), (b968 x), (b969 x), (b970 x), (b971 x), (b972 x), (b973 x), (b974 x), (b975 x), (b976 x), (b977 x), (b978 x), (b979 x), (b980 x), (b981 x), (b982 x), (b983 x), (b984 x), (b985 x), (b986 x), (b987 x), (b988 x), (b989 x), (b990 x), (b991 x), (b992 x), (b993 x), (b994 x), (b995 x), (b996 x), (b997 x), (b998 x), (b999 x), (b1000 x), (b1001 x), (b1002 x), (b1003 x), (b1004 x), (b1005 x), (b1006 x), (b1007 x), (b1008 x), (b1009 x), (b1010 x), (b1011 x), (b1012 x), (b1013 x), (b1014 x), (b1015 x), (b1016 x), (b1017 x), (b1018 x), (b1019 x), (b1020 x), (b1021 x), (b1022 x), (b1023 x), (b1024 x), (b1025 x), (b1026 x), (b1027 x), (b1028 x), (b1029 x), (b1030 x), (b1031 x), (b1032 x), (b1033 x), (b1034 x), (b1035 x), (b1036 x), (b1037 x), (b1038 x), (b1039 x), (b1040 x), (b1041 x), (b1044 x), (b1045 x), (b1046 x), (b1047 x), (b1048 x), (b1049 x), (b1050 x)]⟩, ⟨[], [], [], 0, [], [], false, #[], [], 0, false, false, false, 0, [2000, 10, 10], false, 0, true, [], [], 0, false⟩⟩
noncomputable def u0 : Q Str := ⟨Str.ofString "<module>", Str.ofString "/claim/cut.py", Str.ofString "__main__", Str.ofString "__name__", Str.ofString "hideworth.errors", Str.ofString "__doc__", Str.ofString "__package__", Str.ofString "__loader__"⟩
noncomputable def u1 : Q Str := ⟨Str.ofString "__spec__", Str.ofString "__annotations__", Str.ofString "__builtins__", Str.ofString "__file__", Str.ofString "__cached__", Str.ofString "HideError", Str.ofString "__module__", Str.ofString "__qualname__"⟩
noncomputable def u2 : Q Str := ⟨Str.ofString "__firstlineno__", Str.ofString "__static_attributes__", Str.ofString "__weakref__", Str.ofString "NoNumber", Str.ofString "NoTable", Str.ofString "NoBoxes", Str.ofString "NoBudget", Str.ofString "NoOrder"⟩
noncomputable def u3 : Q Str := ⟨Str.ofString "NoWeights", Str.ofString "TooGreat", Str.ofString "NoKind", Str.ofString "NoTree", Str.ofString "NoTurns", Str.ofString "NoPlay", Str.ofString "NoRow", Str.ofString "NoName"⟩
noncomputable def u4 : Q Str := ⟨Str.ofString "NoRoad", Str.ofString "NoWeb", Str.ofString "__init__", Str.ofString "self", Str.ofString "road", Str.ofString "NoWeb.__init__", Str.ofString "NoPlan", Str.ofString "at"⟩
noncomputable def u5 : Q Str := ⟨Str.ofString "NoPlan.__init__", Str.ofString "NoText", Str.ofString "row", Str.ofString "NoText.__init__", Str.ofString "hideworth.webs", Str.ofString "NoPaper", Str.ofString "is_whole", Str.ofString "is_within"⟩
noncomputable def u6 : Q Str := ⟨Str.ofString "MOST_PLACES", Str.ofString "MOST_ROADS", Str.ofString "MOST_LENGTH", Str.ofString "is_road", Str.ofString "k", Str.ofString "NoPaper.__init__", Str.ofString "thing", Str.ofString "hideworth.checks"⟩
noncomputable def u7 : Q Str := ⟨Str.ofString "least", Str.ofString "most", Str.ofString "many", Str.ofString "a", Str.ofString "b", Str.ofString "length", Str.ofString "law_hideworth_k37_webs_looked_at", Str.ofString "places_come_to"⟩
noncomputable def u8 : Q Str := ⟨Str.ofString "look_web", Str.ofString "_law_mixed", Str.ofString "_law_whole", Str.ofString "_law_class", Str.ofString "_law_length", Str.ofString "_law_web", Str.ofString "_law_any_web", Str.ofString "_law_due"⟩
noncomputable def u9 : Q Str := ⟨Str.ofString "_law_spoiled", Str.ofString "_law_caught", Str.ofString "roads", Str.ofString "come", Str.ofString "before", Str.ofString "web", Str.ofString "_law_script", Str.ofString "_law_k"⟩
noncomputable def u10 : Q Str := ⟨Str.ofString "_law_at", Str.ofString "_law_cell", Str.ofString "_law_j", Str.ofString "_law_number", Str.ofString "_law_told", Str.ofString "_law_caught_here", Str.ofString "_law_tests", Str.ofString "_law_way"⟩
noncomputable def u11 : Q Str := ⟨Str.ofString "_law_start", Str.ofString "_law_most", Str.ofString "_law_extra", Str.ofString "_law_many", Str.ofString "_law_shape", Str.ofString "_law_labels", Str.ofString "_law_left", Str.ofString "_law_roads"⟩
noncomputable def u12 : Q Str := ⟨Str.ofString "_law_other", Str.ofString "_law_ends", Str.ofString "_law_a", Str.ofString "_law_b", Str.ofString "_law_web_here", Str.ofString "_law_length_here", Str.ofString "_law_come", Str.ofString "_law_place"⟩
noncomputable def u13 : Q Str := ⟨Str.ofString "e", Str.ofString "law", Str.ofString "_law_due_here", Str.ofString "_law_handed", Str.ofString "_law_handed", Str.ofString "_law_handed", Str.ofString "_law_handed", Str.ofString "_law_handed"⟩
noncomputable def v0 : Q String := ⟨"tuple", "code", "frame", "dict", "__main__.__loader__#opaque", "ValueError", "builtin_function_or_method", "type.__prepare__"⟩
noncomputable def v1 : Q String := ⟨"type", "Exception", "BaseException", "object", "ValueError.__new__", "getset_descriptor", "ExceptionGroup.__weakref__", "super"⟩
noncomputable def v2 : Q String := ⟨"object.__init_subclass__", "function", "function", "function", "function", "function", "function", "function"⟩
noncomputable def w0 (P : Params) : Q Obj := ⟨W.boot_o_0 P, W.boot_o_1 P, W.boot_o_2 P, W.boot_o_3 P, W.boot_o_4 P, W.boot_o_5 P, W.boot_o_6 P, W.boot_o_7 P⟩
noncomputable def w1 (P : Params) : Q Obj := ⟨W.boot_o_8 P, W.boot_o_9 P, W.boot_o_10 P, W.boot_o_10 P, W.boot_o_10 P, W.boot_o_10 P, W.boot_o_10 P, W.boot_o_10 P⟩
lay_quick u0 u1 u2 u3 u4 u5 u6 u7 u8 u9 u10 u11 u12 u13 v0 v1 v2 w0 w1 PySem.Challenge.pw_hideworth_k37_webs_looked_at
noncomputable def k0 (P : Params) : X := ⟨⟨⟨u0, u1, u2, u3, u4, u5, u6, u7⟩, ⟨u8, u9, u10, u11, u12, u13, u13, u13⟩, ⟨u8, u9, u10, u11, u12, u13, u13, u13⟩, ⟨u8, u9, u10, u11, u12, u13, u13, u13⟩, ⟨u8, u9, u10, u11, u12, u13, u13, u13⟩, ⟨u8, u9, u10, u11, u12, u13, u13, u13⟩, ⟨u8, u9, u10, u11, u12, u13, u13, u13⟩, ⟨u8, u9, u10, u11, u12, u13, u13, u13⟩⟩, ⟨⟨v0, v1, v2, v2, v2, v2, v2, v2⟩, ⟨v0, v1, v2, v2, v2, v2, v2, v2⟩, ⟨v0, v1, v2, v2, v2, v2, v2, v2⟩, ⟨v0, v1, v2, v2, v2, v2, v2, v2⟩, ⟨v0, v1, v2, v2, v2, v2, v2, v2⟩, ⟨v0, v1, v2, v2, v2, v2, v2, v2⟩, ⟨v0, v1, v2, v2, v2, v2, v2, v2⟩, ⟨v0, v1, v2, v2, v2, v2, v2, v2⟩⟩, ⟨⟨w0 P, w1 P, w1 P, w1 P, w1 P, w1 P, w1 P, w1 P⟩, ⟨w0 P, w1 P, w1 P, w1 P, w1 P, w1 P, w1 P, w1 P⟩, ⟨w0 P, w1 P, w1 P, w1 P, w1 P, w1 P, w1 P, w1 P⟩, ⟨w0 P, w1 P, w1 P, w1 P, w1 P, w1 P, w1 P, w1 P⟩, ⟨w0 P, w1 P, w1 P, w1 P, w1 P, w1 P, w1 P, w1 P⟩, ⟨w0 P, w1 P, w1 P, w1 P, w1 P, w1 P, w1 P, w1 P⟩, ⟨w0 P, w1 P, w1 P, w1 P, w1 P, w1 P, w1 P, w1 P⟩, ⟨w0 P, w1 P, w1 P, w1 P, w1 P, w1 P, w1 P, w1 P⟩⟩, PySem.Challenge.pw_hideworth_k37_webs_looked_at, P⟩
noncomputable def k1 (P : Params) : X := ⟨⟨⟨PySem.W.Fast.tw13894225608423057668, PySem.W.Fast.tw17531079430653816501, PySem.W.Fast.tw13809737476558091540, PySem.W.Fast.tw2367299412457286945, PySem.W.Fast.tw1912701158020654693, PySem.W.Fast.tw2188347355606102534, PySem.W.Fast.tw16368670287772101220, PySem.W.Fast.tw14842115654739255404⟩, ⟨PySem.W.Fast.tw4717311838995323452, PySem.W.Fast.tw594758545415977400, PySem.W.Fast.tw10895325593200808953, PySem.W.Fast.tw10037743213843438893, PySem.W.Fast.tw10009084784789568687, PySem.W.Fast.tw5084553986333570498, PySem.W.Fast.tw5084553986333570498, PySem.W.Fast.tw5084553986333570498⟩, ⟨PySem.W.Fast.tw4717311838995323452, PySem.W.Fast.tw594758545415977400, PySem.W.Fast.tw10895325593200808953, PySem.W.Fast.tw10037743213843438893, PySem.W.Fast.tw10009084784789568687, PySem.W.Fast.tw5084553986333570498, PySem.W.Fast.tw5084553986333570498, PySem.W.Fast.tw5084553986333570498⟩, ⟨PySem.W.Fast.tw4717311838995323452, PySem.W.Fast.tw594758545415977400, PySem.W.Fast.tw10895325593200808953, PySem.W.Fast.tw10037743213843438893, PySem.W.Fast.tw10009084784789568687, PySem.W.Fast.tw5084553986333570498, PySem.W.Fast.tw5084553986333570498, PySem.W.Fast.tw5084553986333570498⟩, ⟨PySem.W.Fast.tw4717311838995323452, PySem.W.Fast.tw594758545415977400, PySem.W.Fast.tw10895325593200808953, PySem.W.Fast.tw10037743213843438893, PySem.W.Fast.tw10009084784789568687, PySem.W.Fast.tw5084553986333570498, PySem.W.Fast.tw5084553986333570498, PySem.W.Fast.tw5084553986333570498⟩, ⟨PySem.W.Fast.tw4717311838995323452, PySem.W.Fast.tw594758545415977400, PySem.W.Fast.tw10895325593200808953, PySem.W.Fast.tw10037743213843438893, PySem.W.Fast.tw10009084784789568687, PySem.W.Fast.tw5084553986333570498, PySem.W.Fast.tw5084553986333570498, PySem.W.Fast.tw5084553986333570498⟩, ⟨PySem.W.Fast.tw4717311838995323452, PySem.W.Fast.tw594758545415977400, PySem.W.Fast.tw10895325593200808953, PySem.W.Fast.tw10037743213843438893, PySem.W.Fast.tw10009084784789568687, PySem.W.Fast.tw5084553986333570498, PySem.W.Fast.tw5084553986333570498, PySem.W.Fast.tw5084553986333570498⟩, ⟨PySem.W.Fast.tw4717311838995323452, PySem.W.Fast.tw594758545415977400, PySem.W.Fast.tw10895325593200808953, PySem.W.Fast.tw10037743213843438893, PySem.W.Fast.tw10009084784789568687, PySem.W.Fast.tw5084553986333570498, PySem.W.Fast.tw5084553986333570498, PySem.W.Fast.tw5084553986333570498⟩⟩, ⟨⟨PySem.W.Fast.tw15633551313878501473, PySem.W.Fast.tw10735261366311057212, PySem.W.Fast.tw13734974896645664886, PySem.W.Fast.tw13734974896645664886, PySem.W.Fast.tw13734974896645664886, PySem.W.Fast.tw13734974896645664886, PySem.W.Fast.tw13734974896645664886, PySem.W.Fast.tw13734974896645664886⟩, ⟨PySem.W.Fast.tw15633551313878501473, PySem.W.Fast.tw10735261366311057212, PySem.W.Fast.tw13734974896645664886, PySem.W.Fast.tw13734974896645664886, PySem.W.Fast.tw13734974896645664886, PySem.W.Fast.tw13734974896645664886, PySem.W.Fast.tw13734974896645664886, PySem.W.Fast.tw13734974896645664886⟩, ⟨PySem.W.Fast.tw15633551313878501473, PySem.W.Fast.tw10735261366311057212, PySem.W.Fast.tw13734974896645664886, PySem.W.Fast.tw13734974896645664886, PySem.W.Fast.tw13734974896645664886, PySem.W.Fast.tw13734974896645664886, PySem.W.Fast.tw13734974896645664886, PySem.W.Fast.tw13734974896645664886⟩, ⟨PySem.W.Fast.tw15633551313878501473, PySem.W.Fast.tw10735261366311057212, PySem.W.Fast.tw13734974896645664886, PySem.W.Fast.tw13734974896645664886, PySem.W.Fast.tw13734974896645664886, PySem.W.Fast.tw13734974896645664886, PySem.W.Fast.tw13734974896645664886, PySem.W.Fast.tw13734974896645664886⟩, ⟨PySem.W.Fast.tw15633551313878501473, PySem.W.Fast.tw10735261366311057212, PySem.W.Fast.tw13734974896645664886, PySem.W.Fast.tw13734974896645664886, PySem.W.Fast.tw13734974896645664886, PySem.W.Fast.tw13734974896645664886, PySem.W.Fast.tw13734974896645664886, PySem.W.Fast.tw13734974896645664886⟩, ⟨PySem.W.Fast.tw15633551313878501473, PySem.W.Fast.tw10735261366311057212, PySem.W.Fast.tw13734974896645664886, PySem.W.Fast.tw13734974896645664886, PySem.W.Fast.tw13734974896645664886, PySem.W.Fast.tw13734974896645664886, PySem.W.Fast.tw13734974896645664886, PySem.W.Fast.tw13734974896645664886⟩, ⟨PySem.W.Fast.tw15633551313878501473, PySem.W.Fast.tw10735261366311057212, PySem.W.Fast.tw13734974896645664886, PySem.W.Fast.tw13734974896645664886, PySem.W.Fast.tw13734974896645664886, PySem.W.Fast.tw13734974896645664886, PySem.W.Fast.tw13734974896645664886, PySem.W.Fast.tw13734974896645664886⟩, ⟨PySem.W.Fast.tw15633551313878501473, PySem.W.Fast.tw10735261366311057212, PySem.W.Fast.tw13734974896645664886, PySem.W.Fast.tw13734974896645664886, PySem.W.Fast.tw13734974896645664886, PySem.W.Fast.tw13734974896645664886, PySem.W.Fast.tw13734974896645664886, PySem.W.Fast.tw13734974896645664886⟩⟩, ⟨⟨PySem.W.Fast.tw1278260381020688717 P, PySem.W.Fast.tw13492767390215788210 P, PySem.W.Fast.tw13492767390215788210 P, PySem.W.Fast.tw13492767390215788210 P, PySem.W.Fast.tw13492767390215788210 P, PySem.W.Fast.tw13492767390215788210 P, PySem.W.Fast.tw13492767390215788210 P, PySem.W.Fast.tw13492767390215788210 P⟩, ⟨PySem.W.Fast.tw1278260381020688717 P, PySem.W.Fast.tw13492767390215788210 P, PySem.W.Fast.tw13492767390215788210 P, PySem.W.Fast.tw13492767390215788210 P, PySem.W.Fast.tw13492767390215788210 P, PySem.W.Fast.tw13492767390215788210 P, PySem.W.Fast.tw13492767390215788210 P, PySem.W.Fast.tw13492767390215788210 P⟩, ⟨PySem.W.Fast.tw1278260381020688717 P, PySem.W.Fast.tw13492767390215788210 P, PySem.W.Fast.tw13492767390215788210 P, PySem.W.Fast.tw13492767390215788210 P, PySem.W.Fast.tw13492767390215788210 P, PySem.W.Fast.tw13492767390215788210 P, PySem.W.Fast.tw13492767390215788210 P, PySem.W.Fast.tw13492767390215788210 P⟩, ⟨PySem.W.Fast.tw1278260381020688717 P, PySem.W.Fast.tw13492767390215788210 P, PySem.W.Fast.tw13492767390215788210 P, PySem.W.Fast.tw13492767390215788210 P, PySem.W.Fast.tw13492767390215788210 P, PySem.W.Fast.tw13492767390215788210 P, PySem.W.Fast.tw13492767390215788210 P, PySem.W.Fast.tw13492767390215788210 P⟩, ⟨PySem.W.Fast.tw1278260381020688717 P, PySem.W.Fast.tw13492767390215788210 P, PySem.W.Fast.tw13492767390215788210 P, PySem.W.Fast.tw13492767390215788210 P, PySem.W.Fast.tw13492767390215788210 P, PySem.W.Fast.tw13492767390215788210 P, PySem.W.Fast.tw13492767390215788210 P, PySem.W.Fast.tw13492767390215788210 P⟩, ⟨PySem.W.Fast.tw1278260381020688717 P, PySem.W.Fast.tw13492767390215788210 P, PySem.W.Fast.tw13492767390215788210 P, PySem.W.Fast.tw13492767390215788210 P, PySem.W.Fast.tw13492767390215788210 P, PySem.W.Fast.tw13492767390215788210 P, PySem.W.Fast.tw13492767390215788210 P, PySem.W.Fast.tw13492767390215788210 P⟩, ⟨PySem.W.Fast.tw1278260381020688717 P, PySem.W.Fast.tw13492767390215788210 P, PySem.W.Fast.tw13492767390215788210 P, PySem.W.Fast.tw13492767390215788210 P, PySem.W.Fast.tw13492767390215788210 P, PySem.W.Fast.tw13492767390215788210 P, PySem.W.Fast.tw13492767390215788210 P, PySem.W.Fast.tw13492767390215788210 P⟩, ⟨PySem.W.Fast.tw1278260381020688717 P, PySem.W.Fast.tw13492767390215788210 P, PySem.W.Fast.tw13492767390215788210 P, PySem.W.Fast.tw13492767390215788210 P, PySem.W.Fast.tw13492767390215788210 P, PySem.W.Fast.tw13492767390215788210 P, PySem.W.Fast.tw13492767390215788210 P, PySem.W.Fast.tw13492767390215788210 P⟩⟩, PySem.W.Fast.tw13405835334148535033, P⟩
theorem ke : k0 = k1 := by
  unfold k0 k1
  rw [PySem.W.Fast.te13894225608423057668, PySem.W.Fast.te17531079430653816501, PySem.W.Fast.te13809737476558091540, PySem.W.Fast.te2367299412457286945, PySem.W.Fast.te1912701158020654693, PySem.W.Fast.te2188347355606102534, PySem.W.Fast.te16368670287772101220, PySem.W.Fast.te14842115654739255404, PySem.W.Fast.te4717311838995323452, PySem.W.Fast.te594758545415977400, PySem.W.Fast.te10895325593200808953, PySem.W.Fast.te10037743213843438893, PySem.W.Fast.te10009084784789568687, PySem.W.Fast.te5084553986333570498, PySem.W.Fast.te15633551313878501473, PySem.W.Fast.te10735261366311057212, PySem.W.Fast.te13734974896645664886, PySem.W.Fast.te1278260381020688717, PySem.W.Fast.te13492767390215788210, PySem.W.Fast.te13405835334148535033]
end Hd
noncomputable def PySem.W.Fast.tw5089433342897435018 : PySem.Program := Hd.m621v PySem.W.Fast.tw13405835334148535033
theorem PySem.W.Fast.te5089433342897435018 : Hd.m621v PySem.Challenge.pw_hideworth_k37_webs_looked_at = PySem.W.Fast.tw5089433342897435018 := congrArg Hd.m621v PySem.W.Fast.te13405835334148535033
noncomputable def PySem.W.Fast.tw6523691062813141331 (P : PySem.Params) : PySem.Heap := Hd.m628 (Hd.k1 P)
theorem PySem.W.Fast.te6523691062813141331 : (fun P => Hd.m628 (Hd.k0 P)) = PySem.W.Fast.tw6523691062813141331 := congrArg (fun y P => Hd.m628 (y P)) Hd.ke
noncomputable def PySem.W.Fast.tw7261602494866234751 (P : PySem.Params) : PySem.W.BT := Hd.m629 (Hd.k1 P)
theorem PySem.W.Fast.te7261602494866234751 : (fun P => Hd.m629 (Hd.k0 P)) = PySem.W.Fast.tw7261602494866234751 := congrArg (fun y P => Hd.m629 (y P)) Hd.ke
noncomputable def PySem.W.Fast.tw12963355684053603798 : List PySem.Stmt := Hd.m631s PySem.W.Fast.tw13405835334148535033
theorem PySem.W.Fast.te12963355684053603798 : Hd.m631s PySem.Challenge.pw_hideworth_k37_webs_looked_at = PySem.W.Fast.tw12963355684053603798 := congrArg Hd.m631s PySem.W.Fast.te13405835334148535033
noncomputable def PySem.W.Fast.tw11410829693260745003 (P : PySem.Params) : PySem.W.BT := Hd.m645 (Hd.k1 P)
theorem PySem.W.Fast.te11410829693260745003 : (fun P => Hd.m645 (Hd.k0 P)) = PySem.W.Fast.tw11410829693260745003 := congrArg (fun y P => Hd.m645 (y P)) Hd.ke
noncomputable def PySem.W.Fast.tw9979728982398555800 : List PySem.Stmt := Hd.m646s PySem.W.Fast.tw13405835334148535033
theorem PySem.W.Fast.te9979728982398555800 : Hd.m646s PySem.Challenge.pw_hideworth_k37_webs_looked_at = PySem.W.Fast.tw9979728982398555800 := congrArg Hd.m646s PySem.W.Fast.te13405835334148535033
noncomputable def PySem.W.Fast.tw6898383510370818504 (P : PySem.Params) : PySem.W.BT := Hd.m660 (Hd.k1 P)
theorem PySem.W.Fast.te6898383510370818504 : (fun P => Hd.m660 (Hd.k0 P)) = PySem.W.Fast.tw6898383510370818504 := congrArg (fun y P => Hd.m660 (y P)) Hd.ke
noncomputable def PySem.W.Fast.tw11612619552339532694 : List PySem.Stmt := Hd.m661s PySem.W.Fast.tw13405835334148535033
theorem PySem.W.Fast.te11612619552339532694 : Hd.m661s PySem.Challenge.pw_hideworth_k37_webs_looked_at = PySem.W.Fast.tw11612619552339532694 := congrArg Hd.m661s PySem.W.Fast.te13405835334148535033
noncomputable def PySem.W.Fast.tw13483580363748205375 (P : PySem.Params) : PySem.W.BT := Hd.m675 (Hd.k1 P)
theorem PySem.W.Fast.te13483580363748205375 : (fun P => Hd.m675 (Hd.k0 P)) = PySem.W.Fast.tw13483580363748205375 := congrArg (fun y P => Hd.m675 (y P)) Hd.ke
noncomputable def PySem.W.Fast.tw7237129228644098527 : List PySem.Stmt := Hd.m676s PySem.W.Fast.tw13405835334148535033
theorem PySem.W.Fast.te7237129228644098527 : Hd.m676s PySem.Challenge.pw_hideworth_k37_webs_looked_at = PySem.W.Fast.tw7237129228644098527 := congrArg Hd.m676s PySem.W.Fast.te13405835334148535033
noncomputable def PySem.W.Fast.tw14714001774939370293 (P : PySem.Params) : PySem.W.BT := Hd.m690 (Hd.k1 P)
theorem PySem.W.Fast.te14714001774939370293 : (fun P => Hd.m690 (Hd.k0 P)) = PySem.W.Fast.tw14714001774939370293 := congrArg (fun y P => Hd.m690 (y P)) Hd.ke
noncomputable def PySem.W.Fast.tw3892906447920466099 : List PySem.Stmt := Hd.m691s PySem.W.Fast.tw13405835334148535033
theorem PySem.W.Fast.te3892906447920466099 : Hd.m691s PySem.Challenge.pw_hideworth_k37_webs_looked_at = PySem.W.Fast.tw3892906447920466099 := congrArg Hd.m691s PySem.W.Fast.te13405835334148535033
noncomputable def PySem.W.Fast.tw259854337904256310 (P : PySem.Params) : PySem.W.BT := Hd.m705 (Hd.k1 P)
theorem PySem.W.Fast.te259854337904256310 : (fun P => Hd.m705 (Hd.k0 P)) = PySem.W.Fast.tw259854337904256310 := congrArg (fun y P => Hd.m705 (y P)) Hd.ke
noncomputable def PySem.W.Fast.tw60111540912269728 : List PySem.Stmt := Hd.m706s PySem.W.Fast.tw13405835334148535033
theorem PySem.W.Fast.te60111540912269728 : Hd.m706s PySem.Challenge.pw_hideworth_k37_webs_looked_at = PySem.W.Fast.tw60111540912269728 := congrArg Hd.m706s PySem.W.Fast.te13405835334148535033
noncomputable def PySem.W.Fast.tw10764858938593469052 (P : PySem.Params) : PySem.W.BT := Hd.m720 (Hd.k1 P)
theorem PySem.W.Fast.te10764858938593469052 : (fun P => Hd.m720 (Hd.k0 P)) = PySem.W.Fast.tw10764858938593469052 := congrArg (fun y P => Hd.m720 (y P)) Hd.ke
noncomputable def PySem.W.Fast.tw4136120319663237083 : List PySem.Stmt := Hd.m721s PySem.W.Fast.tw13405835334148535033
theorem PySem.W.Fast.te4136120319663237083 : Hd.m721s PySem.Challenge.pw_hideworth_k37_webs_looked_at = PySem.W.Fast.tw4136120319663237083 := congrArg Hd.m721s PySem.W.Fast.te13405835334148535033
noncomputable def PySem.W.Fast.tw9884235223363789603 (P : PySem.Params) : PySem.W.BT := Hd.m735 (Hd.k1 P)
theorem PySem.W.Fast.te9884235223363789603 : (fun P => Hd.m735 (Hd.k0 P)) = PySem.W.Fast.tw9884235223363789603 := congrArg (fun y P => Hd.m735 (y P)) Hd.ke
noncomputable def PySem.W.Fast.tw3664553678325400620 : List PySem.Stmt := Hd.m736s PySem.W.Fast.tw13405835334148535033
theorem PySem.W.Fast.te3664553678325400620 : Hd.m736s PySem.Challenge.pw_hideworth_k37_webs_looked_at = PySem.W.Fast.tw3664553678325400620 := congrArg Hd.m736s PySem.W.Fast.te13405835334148535033
noncomputable def PySem.W.Fast.tw8824224212043476234 (P : PySem.Params) : PySem.W.BT := Hd.m750 (Hd.k1 P)
theorem PySem.W.Fast.te8824224212043476234 : (fun P => Hd.m750 (Hd.k0 P)) = PySem.W.Fast.tw8824224212043476234 := congrArg (fun y P => Hd.m750 (y P)) Hd.ke
noncomputable def PySem.W.Fast.tw1913874783955148494 : List PySem.Stmt := Hd.m751s PySem.W.Fast.tw13405835334148535033
theorem PySem.W.Fast.te1913874783955148494 : Hd.m751s PySem.Challenge.pw_hideworth_k37_webs_looked_at = PySem.W.Fast.tw1913874783955148494 := congrArg Hd.m751s PySem.W.Fast.te13405835334148535033
noncomputable def PySem.W.Fast.tw2505363369469651662 (P : PySem.Params) : PySem.W.BT := Hd.m765 (Hd.k1 P)
theorem PySem.W.Fast.te2505363369469651662 : (fun P => Hd.m765 (Hd.k0 P)) = PySem.W.Fast.tw2505363369469651662 := congrArg (fun y P => Hd.m765 (y P)) Hd.ke
noncomputable def PySem.W.Fast.tw4495053031663053088 : List PySem.Stmt := Hd.m766s PySem.W.Fast.tw13405835334148535033
theorem PySem.W.Fast.te4495053031663053088 : Hd.m766s PySem.Challenge.pw_hideworth_k37_webs_looked_at = PySem.W.Fast.tw4495053031663053088 := congrArg Hd.m766s PySem.W.Fast.te13405835334148535033
noncomputable def PySem.W.Fast.tw11486587244868520238 (P : PySem.Params) : PySem.W.BT := Hd.m780 (Hd.k1 P)
theorem PySem.W.Fast.te11486587244868520238 : (fun P => Hd.m780 (Hd.k0 P)) = PySem.W.Fast.tw11486587244868520238 := congrArg (fun y P => Hd.m780 (y P)) Hd.ke
noncomputable def PySem.W.Fast.tw18346678118910276351 : List PySem.Stmt := Hd.m781s PySem.W.Fast.tw13405835334148535033
theorem PySem.W.Fast.te18346678118910276351 : Hd.m781s PySem.Challenge.pw_hideworth_k37_webs_looked_at = PySem.W.Fast.tw18346678118910276351 := congrArg Hd.m781s PySem.W.Fast.te13405835334148535033
noncomputable def PySem.W.Fast.tw8573380982180755035 (P : PySem.Params) : PySem.W.BT := Hd.m795 (Hd.k1 P)
theorem PySem.W.Fast.te8573380982180755035 : (fun P => Hd.m795 (Hd.k0 P)) = PySem.W.Fast.tw8573380982180755035 := congrArg (fun y P => Hd.m795 (y P)) Hd.ke
noncomputable def PySem.W.Fast.tw18253665801039175930 : List PySem.Stmt := Hd.m796s PySem.W.Fast.tw13405835334148535033
theorem PySem.W.Fast.te18253665801039175930 : Hd.m796s PySem.Challenge.pw_hideworth_k37_webs_looked_at = PySem.W.Fast.tw18253665801039175930 := congrArg Hd.m796s PySem.W.Fast.te13405835334148535033
noncomputable def PySem.W.Fast.tw11029586376939046211 (P : PySem.Params) : PySem.W.BT := Hd.m810 (Hd.k1 P)
theorem PySem.W.Fast.te11029586376939046211 : (fun P => Hd.m810 (Hd.k0 P)) = PySem.W.Fast.tw11029586376939046211 := congrArg (fun y P => Hd.m810 (y P)) Hd.ke
noncomputable def PySem.W.Fast.tw10637995258340530368 : List PySem.Stmt := Hd.m811s PySem.W.Fast.tw13405835334148535033
theorem PySem.W.Fast.te10637995258340530368 : Hd.m811s PySem.Challenge.pw_hideworth_k37_webs_looked_at = PySem.W.Fast.tw10637995258340530368 := congrArg Hd.m811s PySem.W.Fast.te13405835334148535033
noncomputable def PySem.W.Fast.tw477173864197871571 (P : PySem.Params) : PySem.W.BT := Hd.m825 (Hd.k1 P)
theorem PySem.W.Fast.te477173864197871571 : (fun P => Hd.m825 (Hd.k0 P)) = PySem.W.Fast.tw477173864197871571 := congrArg (fun y P => Hd.m825 (y P)) Hd.ke
noncomputable def PySem.W.Fast.tw14329411353619231157 : List PySem.Stmt := Hd.m826s PySem.W.Fast.tw13405835334148535033
theorem PySem.W.Fast.te14329411353619231157 : Hd.m826s PySem.Challenge.pw_hideworth_k37_webs_looked_at = PySem.W.Fast.tw14329411353619231157 := congrArg Hd.m826s PySem.W.Fast.te13405835334148535033
noncomputable def PySem.W.Fast.tw3757646892253594171 (P : PySem.Params) : PySem.W.BT := Hd.m840 (Hd.k1 P)
theorem PySem.W.Fast.te3757646892253594171 : (fun P => Hd.m840 (Hd.k0 P)) = PySem.W.Fast.tw3757646892253594171 := congrArg (fun y P => Hd.m840 (y P)) Hd.ke
noncomputable def PySem.W.Fast.tw7706316046757062580 : List PySem.Stmt := Hd.m841s PySem.W.Fast.tw13405835334148535033
theorem PySem.W.Fast.te7706316046757062580 : Hd.m841s PySem.Challenge.pw_hideworth_k37_webs_looked_at = PySem.W.Fast.tw7706316046757062580 := congrArg Hd.m841s PySem.W.Fast.te13405835334148535033
noncomputable def PySem.W.Fast.tw10687266796651168807 (P : PySem.Params) : PySem.W.BT := Hd.m855 (Hd.k1 P)
theorem PySem.W.Fast.te10687266796651168807 : (fun P => Hd.m855 (Hd.k0 P)) = PySem.W.Fast.tw10687266796651168807 := congrArg (fun y P => Hd.m855 (y P)) Hd.ke
noncomputable def PySem.W.Fast.tw1998037292236136063 : List PySem.Stmt := Hd.m856s PySem.W.Fast.tw13405835334148535033
theorem PySem.W.Fast.te1998037292236136063 : Hd.m856s PySem.Challenge.pw_hideworth_k37_webs_looked_at = PySem.W.Fast.tw1998037292236136063 := congrArg Hd.m856s PySem.W.Fast.te13405835334148535033
noncomputable def PySem.W.Fast.tw8695756208405154762 (P : PySem.Params) : PySem.W.BT := Hd.m877 (Hd.k1 P)
theorem PySem.W.Fast.te8695756208405154762 : (fun P => Hd.m877 (Hd.k0 P)) = PySem.W.Fast.tw8695756208405154762 := congrArg (fun y P => Hd.m877 (y P)) Hd.ke
noncomputable def PySem.W.Fast.tw452346107096275068 : List PySem.Stmt := Hd.m878s PySem.W.Fast.tw13405835334148535033
theorem PySem.W.Fast.te452346107096275068 : Hd.m878s PySem.Challenge.pw_hideworth_k37_webs_looked_at = PySem.W.Fast.tw452346107096275068 := congrArg Hd.m878s PySem.W.Fast.te13405835334148535033
noncomputable def PySem.W.Fast.tw581795164503857178 (P : PySem.Params) : PySem.W.BT := Hd.m899 (Hd.k1 P)
theorem PySem.W.Fast.te581795164503857178 : (fun P => Hd.m899 (Hd.k0 P)) = PySem.W.Fast.tw581795164503857178 := congrArg (fun y P => Hd.m899 (y P)) Hd.ke
noncomputable def PySem.W.Fast.tw1648253714142921258 : List PySem.Stmt := Hd.m900s PySem.W.Fast.tw13405835334148535033
theorem PySem.W.Fast.te1648253714142921258 : Hd.m900s PySem.Challenge.pw_hideworth_k37_webs_looked_at = PySem.W.Fast.tw1648253714142921258 := congrArg Hd.m900s PySem.W.Fast.te13405835334148535033
noncomputable def PySem.W.Fast.tw14549035976305069131 (P : PySem.Params) : PySem.W.BT := Hd.m921 (Hd.k1 P)
theorem PySem.W.Fast.te14549035976305069131 : (fun P => Hd.m921 (Hd.k0 P)) = PySem.W.Fast.tw14549035976305069131 := congrArg (fun y P => Hd.m921 (y P)) Hd.ke
noncomputable def PySem.W.Fast.tw3776228303288551716 : List PySem.Stmt := Hd.m922s PySem.W.Fast.tw13405835334148535033
theorem PySem.W.Fast.te3776228303288551716 : Hd.m922s PySem.Challenge.pw_hideworth_k37_webs_looked_at = PySem.W.Fast.tw3776228303288551716 := congrArg Hd.m922s PySem.W.Fast.te13405835334148535033
noncomputable def PySem.W.Fast.tw15480290273909547775 (P : PySem.Params) : PySem.W.BT := Hd.m964 (Hd.k1 P)
theorem PySem.W.Fast.te15480290273909547775 : (fun P => Hd.m964 (Hd.k0 P)) = PySem.W.Fast.tw15480290273909547775 := congrArg (fun y P => Hd.m964 (y P)) Hd.ke
noncomputable def PySem.W.Fast.tw10910982713980950740 : List PySem.Stmt := Hd.m965s PySem.W.Fast.tw13405835334148535033
theorem PySem.W.Fast.te10910982713980950740 : Hd.m965s PySem.Challenge.pw_hideworth_k37_webs_looked_at = PySem.W.Fast.tw10910982713980950740 := congrArg Hd.m965s PySem.W.Fast.te13405835334148535033
noncomputable def PySem.W.Fast.tw6219001811276485156 (P : PySem.Params) : PySem.W.BT := Hd.m1041 (Hd.k1 P)
theorem PySem.W.Fast.te6219001811276485156 : (fun P => Hd.m1041 (Hd.k0 P)) = PySem.W.Fast.tw6219001811276485156 := congrArg (fun y P => Hd.m1041 (y P)) Hd.ke
noncomputable def PySem.W.Fast.tw16353780495560703468 : List PySem.Stmt := Hd.m1042s PySem.W.Fast.tw13405835334148535033
theorem PySem.W.Fast.te16353780495560703468 : Hd.m1042s PySem.Challenge.pw_hideworth_k37_webs_looked_at = PySem.W.Fast.tw16353780495560703468 := congrArg Hd.m1042s PySem.W.Fast.te13405835334148535033
noncomputable def PySem.W.Fast.tw9183363655948352597 (P : PySem.Params) : PySem.W.BT := Hd.m1050 (Hd.k1 P)
theorem PySem.W.Fast.te9183363655948352597 : (fun P => Hd.m1050 (Hd.k0 P)) = PySem.W.Fast.tw9183363655948352597 := congrArg (fun y P => Hd.m1050 (y P)) Hd.ke
noncomputable def PySem.W.Fast.tw6188354142421085969 (P : PySem.Params) : PySem.Heap := Hd.m1051 (Hd.k1 P)
theorem PySem.W.Fast.te6188354142421085969 : (fun P => Hd.m1051 (Hd.k0 P)) = PySem.W.Fast.tw6188354142421085969 := congrArg (fun y P => Hd.m1051 (y P)) Hd.ke
end
open PySem PySem.W PyProof.Rows PySem.W.X PySem.W.ZRun
set_option maxRecDepth 100000 in
set_option maxHeartbeats 0 in
theorem PySem.Challenge.cw_hideworth_k37_webs_looked_at_holds : PySem.Challenge.rw_hideworth_k37_webs_looked_at.Holds := by
  w_on; o_law; z_head; (case hw => w_witness2)
  k_fill
  intro w s0 s1 m0 m1 G Y fa o pm cd doc dV kV ho hd hc hD hm hg xs vs as L h1 h2 h3 h4 h5
  z_open Y L KX ZH ZN ZT
  refine My.walk_at (l := PySem.Challenge.rw_hideworth_k37_webs_looked_at) KX (fun W => W w s0 s1 m0 m1 G KX fa o pm cd doc dV kV ho hd hc hD hm hg xs vs as h1 h2 h3 h4 h5) (My.walk (l := PySem.Challenge.rw_hideworth_k37_webs_looked_at) rfl rfl (fun _ _ h => h) ?F)
  case F =>
    intro w mg fa h KX G hmg
    refine' My.all_mk KX G hmg (My.txt_mk KX G ?a0 ?l0 ?c0 ?k0 ?a1 ?l1 ?c1 ?k1 ?a2 ?l2 ?c2 ?k2 ?a3 ?l3 ?c3 ?k3 ?a4 ?l4 ?c4 ?k4 ?a5 ?l5 ?c5 ?k5 ?a6 ?l6 ?c6 ?k6 ?a7 ?l7 ?c7 ?k7 ?a8 ?l8 ?c8 ?k8 ?a9 ?l9 ?c9 ?k9 ?a10 ?l10 ?c10 ?k10 ?a11 ?l11 ?c11 ?k11 ?a12 ?l12 ?c12 ?k12 ?a13 ?l13 ?c13 ?k13 ?a14 ?l14 ?c14 ?k14 ?z_list ?z_range ?z_len ?z_isinstance ?z_int ?z_bool ?z_tuple ?z_min ?z_max ?z_sum ?z_enumerate ?z_ValueError ?ac_HideError ?ac_NoWeb ?ac_NoPlan ?ac_NoText ?ac_NoKind ?ac_TooGreat ?ac_NoTree ?ac_NoWeights ?ac_NoTurns ?ac_NoNumber ?ac_NoBoxes ?ac_NoBudget ?ac_NoName ?ac_NoOrder ?ac_NoPlay ?ac_NoRoad ?ac_NoRow ?ac_NoTable ?ac_NoPaper ?ak_MOST_PLACES ?ak_MOST_ROADS ?ak_MOST_LENGTH ?xc_HideError ?vsg ?vrd ?vfc ?vin_NoWeb ?vl_NoWeb ?vc_NoWeb ?vk_NoWeb ?vlk_NoWeb ?vtl_NoWeb ?vfn_NoWeb ?vkp_NoWeb ?vmo_NoWeb ?vsa_NoWeb ?vga_NoWeb ?vgn_NoWeb ?vcl_NoWeb ?vmb_NoWeb ?vhd_NoWeb ?vna_NoWeb ?i_k_NoWeb ?i_k_NoPlan ?i_k_NoText ?i_k_NoKind ?i_k_TooGreat ?i_k_NoTree ?i_k_NoWeights ?i_k_NoTurns ?i_k_NoNumber ?i_k_NoBoxes ?i_k_NoBudget ?i_k_NoName ?i_k_NoOrder ?i_k_NoPlay ?i_k_NoRoad ?i_k_NoRow ?i_k_NoTable ?i_k_NoPaper ?i_k_ValueError ?i_sub ?e_ga ?e_gn ?e_cl ?e_mb ?e_mo)
    (case a0 => k_is); (case l0 => k_is); (case c0 => k_is); (case k0 => k_is)
    (case a1 => k_is); (case l1 => k_is); (case c1 => k_is); (case k1 => k_is)
    (case a2 => k_is); (case l2 => k_is); (case c2 => k_is); (case k2 => k_is)
    (case a3 => k_is); (case l3 => k_is); (case c3 => k_is); (case k3 => k_is)
    (case a4 => k_is); (case l4 => k_is); (case c4 => k_is); (case k4 => k_is)
    (case a5 => k_is); (case l5 => k_is); (case c5 => k_is); (case k5 => k_is)
    (case a6 => k_is); (case l6 => k_is); (case c6 => k_is); (case k6 => k_is)
    (case a7 => k_is); (case l7 => k_is); (case c7 => k_is); (case k7 => k_is)
    (case a8 => k_is); (case l8 => k_is); (case c8 => k_is); (case k8 => k_is)
    (case a9 => k_is); (case l9 => k_is); (case c9 => k_is); (case k9 => k_is)
    (case a10 => k_is); (case l10 => k_is); (case c10 => k_is); (case k10 => k_is)
    (case a11 => k_is); (case l11 => k_is); (case c11 => k_is); (case k11 => k_is)
    (case a12 => k_is); (case l12 => k_is); (case c12 => k_is); (case k12 => k_is)
    (case a13 => k_is); (case l13 => k_is); (case c13 => k_is); (case k13 => k_is)
    (case a14 => k_is); (case l14 => k_is); (case c14 => k_is); (case k14 => k_is)
    (case z_list => k_is)
    (case z_range => k_is)
    (case z_len => k_is)
    (case z_isinstance => k_is)
    (case z_int => k_is)
    (case z_bool => k_is)
    (case z_tuple => k_is)
    (case z_min => k_is)
    (case z_max => k_is)
    (case z_sum => k_is)
    (case z_enumerate => k_is)
    (case z_ValueError => k_is)
    (case ac_HideError => k_is)
    (case ac_NoWeb => k_is)
    (case ac_NoPlan => k_is)
    (case ac_NoText => k_is)
    (case ac_NoKind => k_is)
    (case ac_TooGreat => k_is)
    (case ac_NoTree => k_is)
    (case ac_NoWeights => k_is)
    (case ac_NoTurns => k_is)
    (case ac_NoNumber => k_is)
    (case ac_NoBoxes => k_is)
    (case ac_NoBudget => k_is)
    (case ac_NoName => k_is)
    (case ac_NoOrder => k_is)
    (case ac_NoPlay => k_is)
    (case ac_NoRoad => k_is)
    (case ac_NoRow => k_is)
    (case ac_NoTable => k_is)
    (case ac_NoPaper => k_is)
    (case ak_MOST_PLACES => k_is)
    (case ak_MOST_ROADS => k_is)
    (case ak_MOST_LENGTH => k_is)
    (case xc_HideError => k_exc)
    (case vsg => k_is)
    (case vrd => k_is)
    (case vfc => k_is)
    (case vin_NoWeb => k_is)
    (case vl_NoWeb => k_is)
    (case vc_NoWeb => k_is)
    (case vk_NoWeb => k_is)
    (case vlk_NoWeb => k_is)
    (case vtl_NoWeb => kernel_rfl)
    (case vfn_NoWeb => k_is)
    (case vkp_NoWeb => k_is)
    (case vmo_NoWeb => k_is)
    (case vsa_NoWeb => k_is)
    (case vga_NoWeb => k_is)
    (case vgn_NoWeb => k_is)
    (case vcl_NoWeb => k_is)
    (case vmb_NoWeb => k_is)
    (case vhd_NoWeb => k_is)
    (case vna_NoWeb => k_is)
    (case i_k_NoWeb => kit_is)
    (case i_k_NoPlan => kit_is)
    (case i_k_NoText => kit_is)
    (case i_k_NoKind => kit_is)
    (case i_k_TooGreat => kit_is)
    (case i_k_NoTree => kit_is)
    (case i_k_NoWeights => kit_is)
    (case i_k_NoTurns => kit_is)
    (case i_k_NoNumber => kit_is)
    (case i_k_NoBoxes => kit_is)
    (case i_k_NoBudget => kit_is)
    (case i_k_NoName => kit_is)
    (case i_k_NoOrder => kit_is)
    (case i_k_NoPlay => kit_is)
    (case i_k_NoRoad => kit_is)
    (case i_k_NoRow => kit_is)
    (case i_k_NoTable => kit_is)
    (case i_k_NoPaper => kit_is)
    (case i_k_ValueError => kit_is)
    (case i_sub => k_is)
    (case e_ga => k_is)
    (case e_gn => k_is)
    (case e_cl => k_is)
    (case e_mb => k_is)
    (case e_mo => k_is)
